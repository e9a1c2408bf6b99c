import PyProof.Rows.All
import Wide.All
import OpenK.AllK
import Wide.FinOn
import KE.KIsAll
import KE.KTryMore
import HandS.ForMost
import HandS.Exc
import HandS.ExcInit
import HandS.ExcIs
import HandS.IsInst
import PyProof.ReprReads
import HandS.ExcField
import HandS.ExcOwn
import HandS.ExcValue
import HandS.Defaults
import HandS.Walk
import KE.GoesMore
import HandS.Gcd
import HandS.WordsExc
import KE.KMathGC
import HandS.TupAny
import HandS.TupMul
import HandS.Wide
import PySem.Challenge.RW_talkmeans_k35_spreads
set_option Elab.async false
set_option maxRecDepth 100000
set_option maxHeartbeats 4000000
/-! Promises of defs that are asked where no repr is under way; repr of data of any depth. -/
namespace Tk
open PySem PySem.Spec PyProof.Rows L2

/-- a def's promise, asked where nothing is being shown -/
structure FnG (P : Program) (w : World) (K : PySem.W.Frag) (mg : Str → Option Value) (base : Heap) (CX : CXT) (k : Nat) (f : Addr) (fd : FuncData) (ps : List Str) (sp : Sp) : Prop where
  arity : ∀ vs H Q E, sp vs H Q E → vs.length = ps.length
  go : ∀ (A : Around) (outer : List Env) (s : Shared) (H : Hp) (args : Args) (us : List Value) (vs : List V) (Q : VK) (E : XK), A.guards = some [] →
    Room k A → Env0 P w K mg base A outer s H → BindsTo s fd args (ps.zip us) → Vals vs us → sp vs H Q E →
      codeAny (model P w) A (.call (.ref f) args) (CR CX outer P w H s Q E) s

section
variable {P : Program} {w : World} {K : PySem.W.Frag} {mg : Str → Option Value} {base : Heap}
theorem FnG.of {CX : CXT} {k : Nat} {f : Addr} {fd : FuncData} {ps : List Str} {sp : Sp} (F : FnOk P w K mg base CX k f fd ps sp) : FnG P w K mg base CX k f fd ps sp :=
  ⟨F.len, fun A o s H a us vs Q E _ => F.run A o s H a us vs Q E⟩

/-- the rule for a def by its body, nothing being shown -/
theorem okG {x qual : Str} {st : Stmt} {f : Addr} {fd : FuncData} {N ps : List Str} {k : Nat} {sp : Sp} (F : Fun K x qual st f fd) (S : FnScope N ps (defScope st)) (ar : ∀ vs H Q E, sp vs H Q E → vs.length = ps.length)
    (body : ∀ (cdv : Value) (A : Around) (outer : List Env) (s : Shared) (H : Hp) (vs : List V) (Q : VK) (E : XK), A.guards = some [] → Room k (A.deeper (envOfC qual (defScope st) s.heap.objs.size f cdv)) → sp vs H Q E →
      ∃ t, PSs (cxOf CX0 P w K mg base N qual (defScope st) f cdv A outer s H E).nox (defBody st) t ∧ t { nx := fun _ H' => Q .non H', rt := Q } (start N vs) H) :
    FnG P w K mg base CX0 (k + 1) f fd ps sp := by
  refine ⟨ar, fun A outer s H args us vs Q E gd room env bnd rel ask => ?_⟩
  obtain ⟨oc, od, kV, doc, pm, an, cdv, ct, osl, efd, look, hcode⟩ := F.ex
  subst efd
  have KH : K.In s.heap := env.mod.kin.keeps fun b o e => (env.bs b o e).1
  have noLim : s.heap.NoLimit := env.mod.nolimit.keeps fun b o e => (env.bs b o e).1
  have kinds : ∀ y ∈ ps.zip us, (defScope st).names.lookup y.1 = some .local ∨ ((defScope st).names.lookup y.1 = some .cell ∧ ((cellsFrom (s.heap.objs.size + 1) (defScope st).names []).lookup y.1).isSome = true) := by
    rintro ⟨n, v⟩ hy
    have hn : n ∈ ps := (List.of_mem_zip hy).1
    cases S.par n hn with
    | inl q => exact Or.inl q
    | inr q => exact Or.inr ⟨q, PySem.W.cellsFrom_some _ _ _ (Or.inl q)⟩
  refine codeAny_call_function room.depth (KH _ _ look) rfl S.co S.gen rfl (PySem.W.codeRec_of KH hcode) (bnd _ _ _ _ ?_)
  refine wpAny_newFunctionEnv_cells S.kind kinds fun env' he s1 x => ?_
  subst he
  refine ⟨noLim.keeps x.toInCall.keep, codeAny_func ?_⟩
  obtain ⟨t, tr, ans⟩ := body cdv A outer s H vs Q E gd (room.deeper _) ask
  have inv := inv_start (CX := CX0) (E := E) S room.hd env (ar _ _ _ _ ask) rel x
  refine wpAny_mono (tr.nox.run [] s1 (start N vs) H _ inv ans) (fun fl s' out => ?_) fun e s' out => out
  cases fl with
  | brk => obtain ⟨_, _, _, q⟩ := out; exact q.elim
  | cont => obtain ⟨_, _, _, q⟩ := out; exact q.elim
  | next => obtain ⟨σ', H', J, q⟩ := out; exact ⟨V.non, H', J.os, J.bare, J.base, J.hok, rfl, q⟩
  | ret u => obtain ⟨v, σ', H', J, rv, q⟩ := out; exact ⟨v, H', J.os, J.bare, J.base, J.hok, rv, q⟩
end

section
variable {X : Cx} {CX : CXT} {k : Nat} {f : Addr} {fd : FuncData} {ps : List Str} {sp : Sp} {dvs : List V} {ds : List Value} {E : XK} {x : Str} {p pos : Pos} {e : Expr} {es : List Expr} {t : TA}
/-- f(..) of such a def -/
theorem pe_callG (F : FnG X.prog X.w X.K X.mg X.base CX k f fd ps sp) (gd : X.A.guards = some []) (hr : Room k X.A) (hg : Gl X x) (hm : X.mg x = some (.ref f)) (hk : PySem.W.keepIn X.K (.ref f) = true) (hb : Binds X.K fd ps ds) (hd : Vals dvs ds)
    (hx : Passes CX X E) (ha : PA X (e :: es) t) (hdb : (x == ("__debug__" : Str)) = false := by decide) (he : starEach (e :: es) X.env = (false, eval e X.env) :: starEach es X.env := by rfl)
    (hpl : (backTo pos (starEach es X.env)).any (·.1) = false := by rfl) : PE X (.Call (.Name x p) (e :: es) [] pos) (tCall sp dvs E t) := by
  constructor
  intro pins s σ H Q I h
  refine wpAny_Call_Name_kw (ld_glob I hg hm ?_ hdb)
  refine PySem.W.callWith_K (h₀ := X.base) I.ok.mod.kin hk ?_ he hpl
  refine thn (ha.run pos pins s σ H _ I h) ?_
  rintro us s1 ⟨vs, H1, I1, r, q⟩
  refine ⟨I1.kIn, ?_⟩
  have rel := r.append hd
  have len : (us ++ ds).length = ps.length := (rel.length.symm).trans (F.arity _ _ _ _ q)
  refine wpAny_call (codeAny_mono (F.go X.A X.stack s1 H1 ⟨us, []⟩ (us ++ ds) (vs ++ dvs) Q E gd hr I1.env0 (hb s1 us I1.kIn len) rel q) ?_)
  rintro (er | fl) s' out
  · exact hx pins σ H1 s1 er s' I1 out
  · cases fl with
    | ret u => exact I1.after out
    | next => exact out.elim
    | brk => exact out.elim
    | cont => exact out.elim

/-- repr(x), x data of any depth -/
def rRepr (K : PySem.W.Frag) : List V → Hp → VK → Prop := fun xs H Q =>
  ∃ (x : V) (d : PyData), xs = [x] ∧ Dp K H x d ∧ d.showable = true ∧ d.hasDict = false ∧ d.depth ≤ 60 ∧ d.shown.length + 64 ≤ sizeLine ∧ Q (.str d.shown) H
theorem call_repr (gd : X.A.guards = some []) (hu : X.A.units + 64 < cLine) : CallR X (.builtin "repr") (rRepr X.K) := by
  intro pins s σ H xs us Q I r h
  obtain ⟨x, d, rfl, dp, sh, nd, dd, sz, q⟩ := h
  obtain ⟨u, rfl, ru⟩ := vals1 r
  obtain ⟨as, rd⟩ := Dp.reads I d x u dp ru
  have fin : ∀ (h' : Heap) (t tk : Tok), (∀ b o, s.heap.get? b = some o → h'.get? b = some o) → EP X pins σ Q (Value.str d.shown t) { s with heap := h', toks := tk } :=
    fun h' t tk keep => ⟨V.str d.shown, H, I.kept keep, ⟨t, rfl⟩, q⟩
  by_cases isR : isDisplay d = true
  · obtain ⟨a, rfl⟩ := isRef_of_reads rd isR
    exact repr_of_reads' rd sh (PyData.noDict_hsm nd) gd (by omega) (fun _ _ e => e) (fun h' t tk keep => fin h' t tk keep) (by omega)
  · have plain : ∀ (y : Str), y = d.shown → EP X pins σ Q (Value.str y s.toks) { s with toks := s.toks + 1 } := by
      rintro y rfl
      exact ⟨V.str d.shown, H, I.tok _, ⟨_, rfl⟩, q⟩
    cases dp with
    | non => cases ru; exact PySem.P.repr_of_none (plain _ rfl)
    | bl b => cases ru; exact PySem.P.repr_of_bool (plain _ (by cases b <;> rfl))
    | int i => obtain ⟨t, rfl⟩ := ru; exact PySem.P.repr_of_int (by simpa [PyData.showable] using sh) (plain _ rfl)
    | str y => obtain ⟨t, rfl⟩ := ru; exact PySem.P.repr_of_str (plain _ rfl) (Nat.le_trans (Nat.le_add_right _ 64) sz)
    | lst _ _ => exact absurd rfl isR
    | tup _ _ => exact absurd rfl isR
end

/-! ### the law's own call, nothing being shown around it -/
section
variable {P : Program} {w : World} {K : PySem.W.Frag} {mg mb : Str → Option Value} {k : Nat} {fa a : Addr} {fd : FuncData} {x : Str} {sp : Sp} {s₁ : Shared} {vs : List Value} {ns : List Int}
/-- what is tracked ahead of the law: the script alone, or nothing -/
structure Ahead (K : PySem.W.Frag) (h : Heap) (a : Addr) (H : Hp) : Prop where
  only : Only H
  one : ∀ b, H b ≠ none → b = a
  free : H a ≠ none → K.lookup a = none
theorem Ahead.no {h : Heap} {H : Hp} (Z : Ahead K h a H) {b : Addr} (hb : b ≠ a) : H b = none := Classical.byContradiction fun q => hb (Z.one b q)
theorem Ahead.mod {h : Heap} {H : Hp} (Z : Ahead K h a H) (hK : K.In h) (hm : h.Ns mainGlobals mg) (hbu : h.Ns builtinsNs mb) (hbb : ∀ y : Str, y ≠ "__name__" → mb y = bootBuiltins y) (hl : h.NoLimit)
    {o : Obj} (ha : h.get? a = some o) (nd : ∀ es ep, o.data ≠ .dict es ep) : Mod K mg (hidT h H) := by
  have into : ∀ {L : Addr} {m : Str → Option Value}, h.Ns L m → (hidT h H).Ns L m := by
    rintro L m ⟨u, es, ep, g1, g2, rest⟩
    have ne : L ≠ a := by
      rintro rfl
      rw [ha] at g1
      cases g1
      exact nd es ep g2
    exact ⟨u, es, ep, hidT_get g1 (Z.no ne), g2, rest⟩
  have inK : K.In (hidT h H) := by
    intro b u hu
    refine hidT_get (hK b u hu) (Classical.byContradiction fun q => ?_)
    have e := Z.one b q
    subst e
    rw [Z.free q] at hu
    cases hu
  obtain ⟨mc, l1, l2⟩ := hl
  exact ⟨inK, into hm, ⟨mb, into hbu, hbb⟩, ⟨mc, into l1, l2⟩⟩
theorem lawG (KX : K.In s₁.heap) (hm : s₁.heap.Ns mainGlobals mg) (hbu : s₁.heap.Ns builtinsNs mb) (hbb : ∀ y : Str, y ≠ "__name__" → mb y = bootBuiltins y) (hlim : s₁.heap.NoLimit) (hgen : s₁.gens = #[])
    (ha : s₁.heap.get? a = some { cls := .type "list", data := .seq vs.toArray }) (hi : IntsAre vs ns) (hl : ns.length ≤ sizeLine) (hr : Room k callerA)
    (F : ∀ base : Heap, K.In base → base.Ns mainGlobals mg → FnG P w K mg base CX0 k fa fd [x] sp) (bnd : ∀ (s : Shared) (u : Value), BindsTo s fd ⟨[u], []⟩ [(x, u)])
    (ask : ∀ H : Hp, Only H → SqL K H a (ns.map V.int) → sp [.ref a] H (fun v _ => v = .bl true) fun _ _ _ => False) :
    codeAny (model P w) callerA (.call (.ref fa) ⟨[.ref a], []⟩) (fun r s' => r = .ok (.ret (.bool true)) ∧ OldK s₁.heap s'.heap ∧ s'.os = s₁.os ∧ AllBare s'.gens) s₁ := by
  have rel := vals_ints hi
  have from_ : ∀ H : Hp, Ahead K s₁.heap a H → SqL K H a (ns.map V.int) → HOk P w H s₁.heap →
      codeAny (model P w) callerA (.call (.ref fa) ⟨[.ref a], []⟩) (fun r s' => r = .ok (.ret (.bool true)) ∧ OldK s₁.heap s'.heap ∧ s'.os = s₁.os ∧ AllBare s'.gens) s₁ := by
    intro H Z sq ok
    have M : Mod K mg (hidT s₁.heap H) := Z.mod KX hm hbu hbb hlim ha (fun es ep e => by cases e)
    have env : Env0 P w K mg (hidT s₁.heap H) callerA [] s₁ H :=
      { frames := rfl, mod := M, bs := fun b o e => of_hidT e, bsz := Nat.le_of_eq (hidT_size _ _), funs := True.intro, frf := fun b hb => absurd hb List.not_mem_nil, hok := ok, bare := AllBare.of_eq hgen }
    refine codeAny_mono ((F _ M.kin M.glob).go callerA [] s₁ H ⟨[.ref a], []⟩ [.ref a] [.ref a] _ _ rfl hr env (bnd s₁ (.ref a)) (.cons rfl .nil) (ask H Z.only sq)) ?_
    rintro (er | fl) s' out
    · exact out.elim
    · cases fl with
      | next => exact out.elim
      | brk => exact out.elim
      | cont => exact out.elim
      | ret u =>
        obtain ⟨v, H', os, bare, un, ok', ru, rfl⟩ := out
        cases ru
        refine ⟨rfl, OldK.of_keep ?_, os, bare⟩
        intro b o e
        by_cases q : H b = none
        · exact un.keep b o e q List.not_mem_nil List.not_mem_nil
        · rcases Z.only b with z | ⟨ob, xs, z⟩
          · exact absurd z q
          · have e1 := (ok b _ z).1
            have e2 := (ok' b _ (un.frzs b ob _ z)).1
            rw [e1] at e
            cases e
            exact e2
  rcases hk : K.lookup a with _ | o
  · refine from_ (fun b => if b = a then some (.frz { cls := .type "list", data := .seq vs.toArray } (.lst (ns.map V.int))) else none) ⟨fun b => ?_, fun b q => ?_, fun _ => hk⟩ (.inl (.inr ⟨_, if_pos rfl⟩)) (fun b u z => ?_)
    · by_cases hb : b = a
      · exact .inr ⟨_, _, if_pos hb⟩
      · exact .inl (if_neg hb)
    · exact Classical.byContradiction fun hb => q (if_neg hb)
    · dsimp only at z
      by_cases hb : b = a
      · subst hb
        rw [if_pos rfl] at z
        cases z
        exact ⟨ha, by rw [List.length_map]; exact hl, vs, _, rel, ha⟩
      · rw [if_neg hb] at z
        cases z
  · have e := KX a o hk
    rw [ha] at e
    cases e
    exact from_ (fun _ => none) ⟨fun _ => .inl rfl, fun b q => absurd rfl q, fun q => absurd rfl q⟩ (.inr ⟨_, vs.toArray, _, hk, rfl, rfl, rfl, by rw [List.size_toArray, hi.length]; exact hl, by simpa using rel⟩) (fun b u z => by cases z)
end
/-- what the head leaves, from the law's promise -/
theorem walkG {l : PySem.W.OpenLaw} {k : Nat} {q : Program} {loose : List Str} {XP : (Str → Option Value) → Heap → Prop} {YP : World → Heap → Prop} {d : DefRec} {K : Params → PySem.W.Frag} {sp : PySem.W.Frag → Sp} {x : Str}
    (hn : l.most = some 63) (hdf : d.params.defaults = []) (hr : Room k callerA) (hY : ∀ (w : World) (h : Heap), YP w h → (K w.params).In h)
    (F : ∀ (w : World) (mg : Str → Option Value) (fa : Addr) (h : Heap), (K w.params).In h → h.Ns mainGlobals mg → mg d.name = some (.ref fa) →
      ∃ fd : FuncData, (∀ (s : Shared) (u : Value), BindsTo s fd ⟨[u], []⟩ [(x, u)]) ∧ ∀ base : Heap, (K w.params).In base → base.Ns mainGlobals mg → FnG l.prog w (K w.params) mg base CX0 k fa fd [x] (sp (K w.params)))
    (ask : ∀ (K : PySem.W.Frag) (H : Hp) (a : Addr) (ns : List Int), ns.length ≤ 63 → Only H → SqL K H a (ns.map V.int) → sp K [.ref a] H (fun v _ => v = .bl true) fun _ _ _ => False) :
    PySem.W.WalkO q loose XP YP l.row.toRowW d [] (fun f vs => PySem.call f vs) := by
  refine Att.attach_call hn hdf ?_
  intro w s₀ s₁ mg mb fa o pm cd doc a vs ns G Y ho hd hcd hmg hobj hints hlen hgen
  have KX := hY w _ Y
  obtain ⟨fd, bnd, hF⟩ := F w mg fa _ KX G.T.g hmg
  exact lawG KX G.T.g G.T.b G.T.builtins G.T.nolimit hgen hobj hints (Nat.le_trans hlen (by decide)) hr hF bnd (fun H hO hS => ask _ H a ns hlen hO hS)
end Tk
set_option Elab.async false
set_option maxRecDepth 100000
set_option maxHeartbeats 4000000
/-! Own exceptions over any built-in base, with an __init__ of the program, made by place and by names; held as values. -/
namespace PySem
namespace HandSPX
open Builtin Builtin.ObjectAttr
/-- what the classes behind an own class say to its maker -/
structure Tail (bm : List Value) (Bn : String) : Prop where
  has : bm.contains (.type Bn) = true
  na : bm.contains (.type "AttributeError") = false
  nn : bm.contains (.type "NameError") = false
section
variable {M : Model} {A : Around} {E : Value → Shared → Prop} {h : Heap} {g : Array GenState} {d : Drawn} {t : Nat} {os : OsState} {prog : Program} {w : World} {R : Result → Shared → Prop}
variable {nm q : Str} {C N : Addr} {bs bm bmN : List Value} {hdct : Bool} {sn : List Str} {sub : List Value} {ab : Bool} {col : Option Bool} {dd : Option Addr} {k0 k1 k2 k3 k5 : Option Value} {Bn newId initId : String}
theorem newCheckK (F : ExcBaseFacts Bn newId initId bmN) (T : Tail bm Bn) {rest : List Value} {kw : List (Str × Value)} {Q : Unit → Shared → Prop} (cls : h.get? C = some (excClassObj nm q C N bs bm hdct sn sub ab col dd k0 k1 k2 k3 k5 newId))
    (fin : Q () ⟨h, g, d, t, os⟩) : wpAny M A (checkBuiltinCall newId ⟨.ref C :: rest, kw⟩) Q E ⟨h, g, d, t, os⟩ := by
  have inB : (Value.ref C :: bm).contains (.type Bn) = true := by rw [List.contains_cons, T.has, Bool.or_true]
  have ns := F.noStar
  simp only [checkBuiltinCall, F.newKind, F.newSplit, F.newRow]
  repeat (first | refine wpAny_loadPart_at cls ?_ | (refine wpAny_isSubtype_exc cls ?_; rw [inB]) | refine wpAny_staticBase_exc cls ?_ | refine wpAny_madeBy_exc cls ?_ | simp only [bne_self_eq_false, Bool.false_eq_true, if_false] | wp_step)
  exact fin
theorem newK (F : ExcBaseFacts Bn newId initId bmN) (T : Tail bm Bn) {rest : List Value} {kw : List (Str × Value)} (cls : h.get? C = some (excClassObj nm q C N bs bm hdct sn sub ab col dd k0 k1 k2 k3 k5 newId)) (sz : rest.length ≤ sizeLine)
    (fin : R (.ok (.ret (.ref (h.objs.size + 1)))) ⟨(h.push (W.kdv_tup rest)).push (excO C h.objs.size), g, d, t, os⟩) : codeAny (model prog w) A (.builtin newId ⟨.ref C :: rest, kw⟩) R ⟨h, g, d, t, os⟩ := by
  have inB : (Value.ref C :: bm).contains (.type Bn) = true := by rw [List.contains_cons, T.has, Bool.or_true]
  have noA : (Value.ref C :: bm).contains (.type "AttributeError") = false := by rw [List.contains_cons, T.na]; rfl
  have noN : (Value.ref C :: bm).contains (.type "NameError") = false := by rw [List.contains_cons, T.nn]; rfl
  have ends := F.ends
  refine codeAny_builtinAt F.entry ?_
  unfold Builtin.«BaseException.__new__»
  refine wpAt_bind ?_
  show wpAt _ _ _ (stack >>= _) _ _ _
  refine wpAt_bind (wpAt_stack fun _ _ => wpAt_of_wpAny ?_)
  wp_walk
  refine wpAt_of_wpAny ?_
  rw [F.owner]
  repeat (first | with_reducible refine wpAny_madeHere_exc F.canon cls ?_ | with_reducible refine wpAny_loadPart_at cls ?_ | (with_reducible refine wpAny_isSubtype_exc cls ?_; first | rw [inB] | rw [noA] | rw [noN]) | wp_step)
  show R _ _
  rw [Heap.size_push]
  exact fin
theorem typeCallK (F : ExcBaseFacts Bn newId initId bmN) (T : Tail bm Bn) {rest : List Value} {kw : List (Str × Value)} {fI : Addr} {Q : Fin → Shared → Prop} (cls : h.get? C = some (excClassObj nm q C N bs bm hdct sn sub ab col dd k0 k1 k2 k3 k5 newId))
    (look : W.Looks (model prog w) h (typeLookup (.ref C) "__init__") (some (.ref fI))) (bind_ : ∀ self, W.Looks (model prog w) h (bindSpecial (.ref fI) self) (.ref fI, [self])) (sz : rest.length ≤ sizeLine)
    (fin : codeAny (model prog w) A (.call (.ref fI) ⟨.ref (h.objs.size + 1) :: rest, kw⟩) (fun r s' => match r with | .ok (.ret v) => v = .none ∧ Q (.done (.ret (.ref (h.objs.size + 1)))) s' | .ok _ => False | .error e => E e s')
      ⟨(h.push (W.kdv_tup rest)).push (excO C h.objs.size), g, d, t, os⟩) : wpAny (model prog w) A (Builtin.«type.__call__» ⟨.ref C :: rest, kw⟩) Q E ⟨h, g, d, t, os⟩ := by
  have up : ∀ b o, h.get? b = some o → ((h.push (W.kdv_tup rest)).push (excO C h.objs.size)).get? b = some o := fun b o e => Heap.get?_push_of_some _ (Heap.get?_push_of_some _ e)
  have cls1 := up _ _ cls
  have new1 : ((h.push (W.kdv_tup rest)).push (excO C h.objs.size)).get? (h.objs.size + 1) = some (excO C h.objs.size) := by heap_get
  have self1 : (Value.ref C :: bm).contains (.ref C) = true := by simp
  repeat (first | with_reducible refine wpAny_loadPart_at cls ?_ | with_reducible refine wpAny_madeBy_exc cls ?_ | wp_step)
  refine codeAny_call_builtin_code (Code.quiet_builtin _ F.quiet) (newCheckK F T cls ?_)
  refine newK F T cls sz ?_
  show wpAny _ _ _ _ _ _
  unfold isInstance
  repeat (first | with_reducible refine wpAny_loadPart_at new1 ?_ | (with_reducible refine wpAny_isSubtype_exc cls1 ?_; rw [self1]) | wp_step)
  show wpAny _ _ (typeLookup (.ref C) _) _ _ _
  refine (look.keeps up).at ?_
  refine wpAny_holding (wpAny_bind (((bind_ (.ref (h.objs.size + 1))).keeps up).at ?_))
  refine wpAny_bind (wpAny_call (codeAny_mono fin fun r s' out => ?_))
  rcases r with e | (v | _ | _ | _) <;> first | exact out | exact out.elim | skip
  obtain ⟨rfl, out⟩ := out
  first
    | exact wpAny_pure (wpAny_pure out)
    | (wp_walk; exact out)
theorem tcCheckK {rest : List Value} {kw : List (Str × Value)} {Q : Unit → Shared → Prop} (cls : h.get? C = some (excClassObj nm q C N bs bm hdct sn sub ab col dd k0 k1 k2 k3 k5 newId)) (fin : Q () ⟨h, g, d, t, os⟩) :
    wpAny M A (checkBuiltinCall "type.__call__" ⟨.ref C :: rest, kw⟩) Q E ⟨h, g, d, t, os⟩ := by
  have sb := tc_sub
  have ty : (⟨h, g, d, t, os⟩ : Shared).TypeIs (.ref C) "type" := ⟨_, cls, rfl⟩
  simp only [checkBuiltinCall, tc_kind, tc_split]
  repeat (any_goals (first | assumption | with_reducible refine wpAny_loadPart_at cls ?_ | with_reducible refine wpAny_onRaise ?_ | with_reducible refine wpAny_map ?_ | wp_step))
theorem classCallK (F : ExcBaseFacts Bn newId initId bmN) (T : Tail bm Bn) {rest : List Value} {kw : List (Str × Value)} {fI : Addr} (cls : h.get? C = some (excClassObj nm q C N bs bm hdct sn sub ab col dd k0 k1 k2 k3 k5 newId))
    (look : W.Looks (model prog w) h (typeLookup (.ref C) "__init__") (some (.ref fI))) (bind_ : ∀ self, W.Looks (model prog w) h (bindSpecial (.ref fI) self) (.ref fI, [self])) (sz : rest.length ≤ sizeLine)
    (fin : codeAny (model prog w) (A.under (.builtin "type.__call__" ⟨.ref C :: rest, kw⟩)) (.call (.ref fI) ⟨.ref (h.objs.size + 1) :: rest, kw⟩) (W.InitBack (h.objs.size + 1) R) ⟨(h.push (W.kdv_tup rest)).push (excO C h.objs.size), g, d, t, os⟩) :
    codeAny (model prog w) A (.call (.ref C) ⟨rest, kw⟩) R ⟨h, g, d, t, os⟩ := by
  have lk1 := tc_lookup
  have lk2 := tc_bind (.ref C)
  have ty : (⟨h, g, d, t, os⟩ : Shared).TypeIs (.ref C) "type" := ⟨_, cls, rfl⟩
  refine codeAny_of_tree ?_
  show wpAny _ _ (callAny (.ref C) _) _ _ _
  repeat (any_goals (first | assumption | with_reducible refine wpAny_loadPart_at cls ?_ | wp_step))
  refine ⟨rfl, ?_⟩
  refine codeAny_call_builtin_at (Code.quiet_builtin _ (by decide +kernel)) entry_typeCall ?_
  refine tcCheckK cls (typeCallK F T cls look bind_ sz ?_)
  refine codeAny_mono fin fun r s' out => ?_
  rcases r with e | (v | _ | _ | _) <;> exact out
end
end HandSPX
end PySem
set_option Elab.async false
set_option maxRecDepth 100000
set_option maxHeartbeats 4000000
/-! The first field of a new exception, over any built-in base. -/
namespace PySem
namespace HandSPX
open Builtin Builtin.ObjectAttr
section
variable {prog : Program} {w : World} {A : Around} {E : Value → Shared → Prop} {R : Result → Shared → Prop} {hp : Heap} {g : Array GenState} {d : Drawn} {t : Nat} {os : OsState}
theorem storeK {K : W.Frag} {name : Str} {tk : Tok} {v : Value} {x C : Addr} {fv : Array Value} {cd : ClassData} (X : K.In hp) (hx : hp.get? x = some { cls := .ref C, data := .fields fv }) (hcd : W.clsIn K C = some cd)
    (pass : ∀ self, refuseLoop self "__setattr__" cd.mro = pure ()) (ob : cd.mro.contains (.type "object") = true) (ne : cd.mro.isEmpty = false) (hh : cd.hasDict = true) (ha : W.findIn K (.ref C) name = some none)
    (fin : ∀ h' tk' dx, (∀ b o, b ≠ x → hp.get? b = some o → h'.get? b = some o) → hp.objs.size ≤ dx → dx ≠ x → h'.get? x = some { cls := .ref C, dict := some dx, data := .fields fv } →
      h'.Ns1 dx (fun y => if y = name then some v else none) → R (.ok (.ret .none)) ⟨h', g, d, tk', os⟩) :
    codeAny (model prog w) A (.call (.builtin "object.__setattr__") ⟨[.ref x, .str name tk, v], []⟩) R ⟨hp, g, d, t, os⟩ := by
  have I : W.InstAt hp x { cls := .ref C, data := .fields fv } C none := ⟨hx, rfl, rfl, trivial⟩
  have SO := F.store_object
  have xs : x ≠ hp.objs.size := Nat.ne_of_lt (Heap.lt_size hx)
  have sb : W.Looks (model prog w) hp (isInstance (.ref x) (.type "object")) true := I.type.andThen (W.looks_mroIn X (by unfold W.mroIn; rw [hcd, Option.bind_some, if_neg (by rw [ne]; decide), ob]))
  have mro_ : W.Looks (model prog w) hp (mroOf (.ref C)) cd.mro := (W.looks_clsIn X hcd).andThen .now
  have taker : W.Looks (model prog w) hp (storeTaker? none) none := .now
  have clsD : W.Looks (model prog w) hp (classData C) cd := W.looks_clsIn X hcd
  refine codeAny_call_builtin SO.slot.plain SO.entry (@W.check_slot (model prog w) _ _ ⟨hp, g, d, t, os⟩ "object.__setattr__" "object" "__setattr__" (.ref x) [.str name tk, v] [] _ SO.kind SO.split sb (SO.args (.ref x) (.str name tk) v) ?_)
  rw [W.osa_eq, refuse_eq]
  refine wpAny_bind (wpAny_bind (I.type.at (wpAny_bind (mro_.at ?_))))
  rw [pass]
  refine wpAny_pure (wpAny_bind (I.type.at (wpAny_bind ((W.looks_findIn X ha).at (wpAny_bind (taker.at ?_))))))
  show wpAny _ _ (storeInOwnDict (.ref x) (.ref C) (.str name tk) name v false) _ _ _
  obtain ⟨nm, bs, mro, ns, qn, hd, sn, sb', ab, col, del⟩ := cd
  dsimp only at hh
  subst hh
  unfold storeInOwnDict ownDictForStores
  repeat (first | with_reducible refine store_in_new ?_ ?_ | with_reducible refine wpAny_loadPart_at hx ?_ | with_reducible refine clsD.at ?_ | wp_step)
  · exact ⟨_, #[], _, (Heap.get?_update_ne _ _ _ _ xs.symm).trans (Heap.get?_push_at rfl rfl), rfl, fun e he => absurd he (by simp), fun _ => rfl⟩
  · intro h' tk' hn' sm
    have old : (hp.push { cls := .type "dict", data := .dict #[] }).get? x = some { cls := .ref C, data := .fields fv } := Heap.get?_push_of_some _ hx
    refine fin h' tk' hp.objs.size ?_ (Nat.le_refl _) xs.symm ((sm.2 x xs).trans (Heap.get?_update_self _ old rfl)) hn'
    intro b o hb ho
    exact (sm.2 b (Nat.ne_of_lt (Heap.lt_size ho))).trans ((Heap.get?_update_ne _ _ _ _ hb).trans (Heap.get?_push_of_some _ ho))
end
end HandSPX
end PySem
namespace Tk
open PySem PySem.Spec PyProof.Rows L2
/-- what the written part says of an own exception class over a built-in base -/
structure OxC (K : PySem.W.Frag) (C : Addr) : Prop where
  cls : ∃ nm q N bs bm sn sub ab col dd k0 k1 k2 k3 k5 Bn newId initId bmN, K.lookup C = some (excClassObj nm q C N bs bm true sn sub ab col dd k0 k1 k2 k3 k5 newId) ∧ ExcBaseFacts Bn newId initId bmN ∧ PySem.HandSPX.Tail bm Bn ∧
    (∀ self, refuseLoop self "__setattr__" (.ref C :: bm) = pure ()) ∧ (Value.ref C :: bm).contains (.type "object") = true
  sa : PySem.W.findIn K (.ref C) "__setattr__" = some (some (.builtin "object.__setattr__"))
  kC : PySem.W.keepIn K (.ref C) = true
section
variable {X : Cx} {pins : List (Addr × Obj)} {σ : L2.St} {H : Hp} {s : Shared} {a C : Addr} {f : Str} {y : V} {u : Value} {Q : Unit → Shared → Prop} {E : Value → Shared → Prop} {A : Around}
theorem exo_other {e C : Addr} {d : Option Addr} {H : Hp} (h : H e = some (exo e C d)) {b : Addr} {o : HO} (hb : H b = some o) (n : ∀ φ, o ≠ .ext φ) : b ≠ e := by
  rintro rfl
  rw [h] at hb
  exact n _ (Option.some.inj hb).symm
theorem setFirst (T : OxC X.K C) (I : Inv X pins σ H s) (e : H a = some (exo a C none)) (no : PySem.W.findIn X.K (.ref C) f = some none) (ry : RelV y u)
    (fin : ∀ dx s', H dx = none → dx ≠ a → Inv X pins σ (upd (upd H dx (exd dx [(f, y)])) a (exo a C (some dx))) s' → Q () s') : wpAny (model X.prog X.w) A (setAttr (.ref a) f u) Q E s := by
  obtain ⟨nm, q, N, bs, bm, sn, sub, ab, col, dd, k0, k1, k2, k3, k5, Bn, newId, initId, bmN, hC, _, _, pass, hob⟩ := T.cls
  have cd : PySem.W.clsIn X.K C = some { name := nm, bases := bs, mro := .ref C :: bm, ns := N, qualname := q, hasDict := true, slotNames := sn, subclasses := sub, abstract := ab, collection := col, hasDel := false } := by
    unfold PySem.W.clsIn
    rw [hC] <;> rfl
  obtain ⟨t1, ho⟩ := exo_at I.hok e
  obtain ⟨hp, g, dr, tk, os⟩ := s
  refine PySem.W.set_plain I.kIn (ox := PySem.HandSPX.excO C t1) (od := none) ⟨ho, rfl, rfl, trivial⟩ T.sa ?_
  refine PySem.HandSPX.storeK I.kIn ho cd pass hob rfl rfl no ?_
  intro h' tk' dx keep big ne hx hn
  have fresh : H dx = none := I.hok.fresh big
  have offA : ∀ {b : Addr}, H b = none → b ≠ a := by
    rintro b n rfl
    rw [e] at n
    cases n
  have offD : ∀ {b : Addr} {o : HO}, H b = some o → b ≠ dx := fun q => ne_of_none q fresh
  have same : ∀ {b : Addr} {o : HO}, H b = some o → (∀ φ, o ≠ .ext φ) → upd (upd H dx (exd dx [(f, y)])) a (exo a C (some dx)) b = some o := fun q n => by
    rw [upd_ne (exo_other e q n), upd_ne (offD q)]
    exact q
  have UN : Un X.fs [] H (upd (upd H dx (exd dx [(f, y)])) a (exo a C (some dx))) hp h' :=
    { keep := fun b o q n _ _ => keep b o (offA n) q
      slot := fun b o q n _ _ => ⟨o.slots, keep b o (offA n) q⟩
      free := fun b o q n _ => by
        have hb : b ≠ dx := Nat.ne_of_lt (Nat.lt_of_lt_of_le (Heap.lt_size q) big)
        rw [upd_ne (offA n), upd_ne hb]
        exact n
      there := fun b o q _ => by
        rcases Nat.decEq b a with hb | hb
        · exact ⟨o, keep b o hb q⟩
        · exact ⟨_, hb ▸ hx⟩
      tups := fun b xs q => same q (fun φ z => by cases z)
      frzs := fun b o v q => same q (fun φ z => by cases z)
      tbls := fun b ps q => ⟨#[], by rw [same q (fun φ z => by cases z)]; simp⟩ }
  refine fin dx _ fresh ne (I.un (t' := tk') UN ?_)
  intro b o q
  rcases Nat.decEq b a with hb | hb
  · rw [upd_ne hb] at q
    rcases Nat.decEq b dx with hd | hd
    · rw [upd_ne hd] at q
      refine (I.hok b o q).stay (fun c v hc z => keep c v ?_ z) (fun c hc => same hc (fun φ z => by cases z)) (fun c xs hc => same hc (fun φ z => by cases z))
      rcases hc with rfl | hc
      · exact hb
      · exact exo_other e hc (fun φ z => by cases z)
    · subst hd
      rw [upd_same] at q
      cases q
      exact exd_ok hn (relO_put (fs := []) ry fun _ => True.intro)
  · subst hb
    rw [upd_same] at q
    cases q
    exact exo_ok hx
end
/-- self.f = e, self a new exception without a dict -/
def tFirst (K : PySem.W.Frag) (f : Str) (to te : TE) : TS := fun D σ H => te σ H fun y H1 => to σ H1 fun x H2 => ∃ a C : Addr, x = .ref a ∧ OxC K C ∧ PySem.W.findIn K (.ref C) f = some none ∧ H2 a = some (exo a C none) ∧
  ∀ dx, H2 dx = none → dx ≠ a → D.nx σ (upd (upd H2 dx (exd dx [(f, y)])) a (exo a C (some dx)))
theorem ps_first {X : Cx} {o e : Expr} {to te : TE} {f : Str} {p pos : Pos} (ho : PE X o to) (he : PE X e te) (hs : swapsWith e (some (.Attribute o f p)) pos.line X.env = pure false := by rfl) : PS X (.Assign [.Attribute o f p] e pos) (tFirst X.K f to te) := by
  constructor
  intro pins s σ H D I h
  refine plainObj_wpAny_Assign_Attribute (thn (he.run pins s σ H _ I h) ?_) hs
  rintro v s1 ⟨y, H1, I1, r1, q1⟩
  refine thn (ho.run pins s1 σ H1 _ I1 q1) ?_
  rintro u s2 ⟨x, H2, I2, r2, a, C, rfl, T, no, ea, q⟩
  cases r2
  exact setFirst T I2 ea no r1 fun dx s' n ne J => ⟨σ, _, J, q dx n ne⟩
end Tk
set_option Elab.async false
set_option maxRecDepth 100000
set_option maxHeartbeats 4000000
/-! Own exceptions as values: made, asked for a field, asked for their class. -/
namespace Tk
open PySem PySem.Spec PyProof.Rows L2
/-- __init__(self, f): self.f = f, of an own exception -/
def spInit (K : PySem.W.Frag) (f : Str) : Sp := fun vs H Q _ => ∃ (a C : Addr) (y : V), vs = [.ref a, y] ∧ OxC K C ∧ PySem.W.findIn K (.ref C) f = some none ∧ H a = some (exo a C none) ∧
  ∀ dx, H dx = none → dx ≠ a → Q .non (upd (upd H dx (exd dx [(f, y)])) a (exo a C (some dx)))
section
variable {X : Cx} {pins : List (Addr × Obj)} {σ : L2.St} {H : Hp} {s : Shared} {C fI : Addr} {f nm : Str} {y : V} {u : Value} {k : Nat} {fd : FuncData} {Q : VK}
/-- C(y) or C(f=y): the call itself -/
theorem make_ox (T : OxC X.K C) (iC : PySem.W.findIn X.K (.ref C) "__init__" = some (some (.ref fI))) (tI : PySem.W.typeIn X.K (.ref fI) = some (.type "function")) (F : FnOk X.prog X.w X.K X.mg X.base CX0 k fI fd ["self", nm] (spInit X.K f))
    (hr : Room (k + 1) X.A) (no : PySem.W.findIn X.K (.ref C) f = some none) (I : Inv X pins σ H s) (ry : RelV y u) {rest : List Value} {kw : List (Str × Value)} (short : rest.length ≤ 1)
    (bnd : ∀ (s : Shared) (self : Value), BindsTo s fd ⟨self :: rest, kw⟩ [("self", self), (nm, u)])
    (fin : ∀ a dx, H a = none → H dx = none → dx ≠ a → Q (.ref a) (upd (upd (upd H a (exo a C none)) dx (exd dx [(f, y)])) a (exo a C (some dx)))) :
    wpAny (model X.prog X.w) X.A (call (.ref C) rest kw) (EP X pins σ Q) X.xe s := by
  obtain ⟨nm', q, N, bs, bm, sn, sub, ab, col, dd, k0, k1, k2, k3, k5, Bn, newId, initId, bmN, hC, FB, TT, pass, hob⟩ := T.cls
  obtain ⟨hp, g, dr, tk, os⟩ := s
  have big : hp.objs.size ≤ hp.objs.size + 1 := Nat.le_succ _
  have fresh : H (hp.objs.size + 1) = none := I.hok.fresh big
  have up : ∀ b o, hp.get? b = some o → ((hp.push (PySem.W.kdv_tup rest)).push (PySem.HandSPX.excO C hp.objs.size)).get? b = some o := fun b o e => Heap.get?_push_of_some _ (Heap.get?_push_of_some _ e)
  have at_ : ((hp.push (PySem.W.kdv_tup rest)).push (PySem.HandSPX.excO C hp.objs.size)).get? (hp.objs.size + 1) = some (PySem.HandSPX.excO C hp.objs.size) := by heap_get
  have J : Inv X pins σ (upd H (hp.objs.size + 1) (exo (hp.objs.size + 1) C none)) ⟨(hp.push (PySem.W.kdv_tup rest)).push (PySem.HandSPX.excO C hp.objs.size), g, dr, tk, os⟩ := I.laid (t' := tk) up big (exo_ok at_)
  have rel : Vals [V.ref (hp.objs.size + 1), y] [Value.ref (hp.objs.size + 1), u] := .cons rfl (.cons ry .nil)
  have sz : rest.length ≤ sizeLine := Nat.le_trans short (by rw [sizeLine_eq]; decide)
  have ask : spInit X.K f [V.ref (hp.objs.size + 1), y] (upd H (hp.objs.size + 1) (exo (hp.objs.size + 1) C none)) (fun v H' => v = .non ∧ Q (.ref (hp.objs.size + 1)) H') (fun _ _ _ => False) := by
    refine ⟨_, C, y, rfl, T, no, upd_same, fun dx n ne => ⟨rfl, fin _ dx fresh ?_ ne⟩⟩
    rw [upd_ne ne] at n
    exact n
  refine wpAny_call (PySem.HandSPX.classCallK FB TT (I.kIn _ _ hC) (PySem.W.looks_findIn I.kIn iC) (fun self => PySem.W.bind_fn I.kIn self tI) sz ?_)
  refine codeAny_mono (F.run _ X.stack _ _ ⟨Value.ref (hp.objs.size + 1) :: rest, kw⟩ [Value.ref (hp.objs.size + 1), u] _ _ (fun _ _ _ => False) (hr.make C rest kw) (J.env0.make C rest kw) (bnd _ _) rel ask) ?_
  rintro (er | fl) s' out
  · exact out.elim
  · cases fl with
    | next => exact out.elim
    | brk => exact out.elim
    | cont => exact out.elim
    | ret v =>
      obtain ⟨v', H', J', rv, rfl, qq⟩ := J.after out
      exact ⟨rv, ⟨V.ref (hp.objs.size + 1), H', J', rfl, qq⟩⟩
end
/-- C(e), C(f=e): a new exception with its field -/
def tOx (C : Addr) (f : Str) (t : TA) : TE := fun σ H Q => t σ H fun vs H1 => ∃ y, vs = [y] ∧ ∀ a dx H2, H1 a = none → H1 dx = none → dx ≠ a → H2 a = some (exo a C (some dx)) → H2 dx = some (exd dx [(f, y)]) → Same H1 H2 → Q (.ref a) H2
/-- C() without an __init__ -/
def tOx0 (C : Addr) : TE := fun _ H Q => ∀ a, H a = none → Q (.ref a) (upd H a (exo a C none))
theorem tOx_end {H : Hp} {C : Addr} {f : Str} {y : V} {Q : VK} (q : ∀ a dx H2, H a = none → H dx = none → dx ≠ a → H2 a = some (exo a C (some dx)) → H2 dx = some (exd dx [(f, y)]) → Same H H2 → Q (.ref a) H2)
    (a dx : Addr) (na : H a = none) (nd : H dx = none) (ne : dx ≠ a) : Q (.ref a) (upd (upd (upd H a (exo a C none)) dx (exd dx [(f, y)])) a (exo a C (some dx))) := by
  refine q a dx _ na nd ne upd_same ?_ ?_
  · rw [upd_ne ne, upd_same]
  · intro b o h
    rw [upd_ne (ne_of_none h na), upd_ne (ne_of_none h nd), upd_ne (ne_of_none h na)]
    exact h
section
variable {X : Cx} {C fI : Addr} {f nm x : Str} {k : Nat} {fd : FuncData} {e : Expr} {t : TA} {p pos kp : Pos}
theorem pe_ox (T : OxC X.K C) (iC : PySem.W.findIn X.K (.ref C) "__init__" = some (some (.ref fI))) (tI : PySem.W.typeIn X.K (.ref fI) = some (.type "function")) (F : FnOk X.prog X.w X.K X.mg X.base CX0 k fI fd ["self", nm] (spInit X.K f))
    (hr : Room (k + 1) X.A) (no : PySem.W.findIn X.K (.ref C) f = some none) (bnd : ∀ (s : Shared) (self u : Value), BindsTo s fd ⟨[self, u], []⟩ [("self", self), (nm, u)]) (hg : Gl X x) (hm : X.mg x = some (.ref C)) (ha : PA X [e] t)
    (hdb : (x == ("__debug__" : Str)) = false := by decide) (he : starEach [e] X.env = (false, eval e X.env) :: starEach [] X.env := by rfl) (hpl : (backTo pos (starEach [] X.env)).any (·.1) = false := by rfl) :
    PE X (.Call (.Name x p) [e] [] pos) (tOx C f t) := by
  constructor
  intro pins s σ H Q I h
  refine wpAny_Call_Name_kw (ld_glob I hg hm ?_ hdb)
  refine PySem.W.callWith_K (h₀ := X.base) I.ok.mod.kin T.kC ?_ he hpl
  refine thn (ha.run pos pins s σ H _ I h) ?_
  rintro us s1 ⟨vs, H1, I1, r, y, rfl, q⟩
  obtain ⟨u, rfl, ru⟩ := vals1 r
  exact ⟨I1.kIn, make_ox T iC tI F hr no I1 ru (rest := [u]) (kw := []) (Nat.le_refl 1) (fun s self => bnd s self u) (tOx_end q)⟩
theorem pe_oxK (T : OxC X.K C) (iC : PySem.W.findIn X.K (.ref C) "__init__" = some (some (.ref fI))) (tI : PySem.W.typeIn X.K (.ref fI) = some (.type "function")) (F : FnOk X.prog X.w X.K X.mg X.base CX0 k fI fd ["self", nm] (spInit X.K f))
    (hr : Room (k + 1) X.A) (no : PySem.W.findIn X.K (.ref C) f = some none) (bnd : ∀ (s : Shared) (self u : Value), BindsTo s fd ⟨[self], [(nm, u)]⟩ [("self", self), (nm, u)]) (hg : Gl X x) (hm : X.mg x = some (.ref C)) (hk : PK X [⟨some nm, e, kp⟩] t)
    (hall : (backToKw pos (keywordEach [⟨some nm, e, kp⟩] X.env)).all (·.1.isSome) = true := by rfl) (hks : (backToKw pos (keywordEach [⟨some nm, e, kp⟩] X.env)).filterMap (·.1) = [nm] := by rfl) (hdb : (x == ("__debug__" : Str)) = false := by decide)
    (hpl : ((backTo pos (starEach [] X.env)).any (·.1) || (backToKw pos (keywordEach [⟨some nm, e, kp⟩] X.env)).any (·.1.isNone)) = false := by rfl) :
    PE X (.Call (.Name x p) [] [⟨some nm, e, kp⟩] pos) (tOx C f t) := by
  constructor
  intro pins s σ H Q I h
  refine wpAny_Call_Name_kw (ld_glob I hg hm ?_ hdb)
  refine PySem.W.callWith_KW0 (h₀ := X.base) I.ok.mod.kin T.kC hall ?_ hpl
  refine thn (hk.run pos pins s σ H _ I h) ?_
  rintro us s1 ⟨vs, H1, I1, r, y, rfl, q⟩
  obtain ⟨u, rfl, ru⟩ := vals1 r
  refine ⟨I1.kIn, ?_⟩
  rw [hks]
  exact make_ox T iC tI F hr no I1 ru (rest := []) (kw := [(nm, u)]) (Nat.zero_le 1) (fun s self => bnd s self u) (tOx_end q)
theorem pe_ox0 {bmB : List Value} {B newId initId : String} (FB : ExcBaseFacts B newId initId bmB) (q : PySem.W.excIn X.K C bmB newId = true) (hg : Gl X x) (hm : X.mg x = some (.ref C)) (kC : PySem.W.keepIn X.K (.ref C) = true) (hdb : (x == ("__debug__" : Str)) = false := by decide) :
    PE X (.Call (.Name x p) [] [] pos) (tOx0 C) := by
  constructor
  intro pins s σ H Q I h
  refine wpAny_Call_Name_kw (ld_glob I hg hm ?_ hdb)
  refine PySem.W.callWith_K0 I.kIn kC ?_
  obtain ⟨bm, N, nm, qn, bs, hdct, sn, sub, ab, col, dd, k0, k1, k2, k3, k5, mN, hC, hN, hni, T⟩ := exc_obj I.kIn q
  refine wpAny_call_exc_subT FB T hC hN hni (fun h' a made => ?_) (Nat.zero_le _)
  have fresh : H a = none := I.hok.gone made.new
  obtain ⟨t, at_, _, _⟩ := made.there
  exact ⟨.ref a, _, I.laidN made.keeps made.new fresh (exo_ok at_), rfl, h a fresh⟩
end
/-- e.f, e a made exception -/
def tGetX (K : PySem.W.Frag) (f : Str) (te : TE) : TE := fun σ H Q => te σ H fun x H1 => ∃ (a C dx : Addr) (y : V), x = .ref a ∧ H1 a = some (exo a C (some dx)) ∧ H1 dx = some (exd dx [(f, y)]) ∧ XfC K C ∧ PySem.W.findIn K (.ref C) f = some none ∧ Q y H1
theorem pe_getX {X : Cx} {e : Expr} {te : TE} {pos : Pos} {f : Str} (he : PE X e te) (hb : attributeBase e f X.env (eval e X.env) = eval e X.env := by rfl) : PE X (.Attribute e f pos) (tGetX X.K f te) := by
  constructor
  intro pins s σ H Q I h
  refine attr_of hb (thn (he.run pins s σ H _ I h) ?_)
  rintro u s1 ⟨x, H1, I1, rx, a, C, dx, y, rfl, ea, ed, T, no, q⟩
  cases rx
  obtain ⟨t1, obj⟩ := exo_at I1.hok ea
  obtain ⟨mA, hns, rel⟩ := exd_at I1.hok ed
  obtain ⟨od, hod, hl⟩ := lookIn_ns hns
  have lk : List.lookup f [(f, y)] = some y := by rw [lookup_put, if_pos rfl]
  obtain ⟨v, hv, rv⟩ := RelO.some_of (v := y) (o := mA f) (by rw [← lk]; exact rel f)
  have inst : PySem.W.InstAt s1.heap a { cls := .ref C, dict := some dx, data := .fields #[.ref t1, .none, .none, .none, .bool false, .none] } C (some od) := ⟨obj, rfl, rfl, hod⟩
  exact HandSPX.exc_get I1.kIn inst T.ga T.gg T.exC (PySem.W.findObj_own T.hdC no rfl (by rw [hl, hv])) (handed_of rv) ⟨y, H1, I1.tok _, rv, q⟩
/-! ### isinstance of a made exception -/
section
variable {K : PySem.W.Frag} {D x : Addr} {ox : Obj} {od : Option Obj}
open PySem.Calls PySem.W in
theorem kitxV (c : ExcC K D) (hob : clsIn K D ≠ none) : KitX K (.ref x) (.ref D) (fun h => InstAt h x ox D od) := by
  have found : findObj K D od "__class__" = some (.bind (.builtin "getset_descriptor.__get__") (.builtin "object.__class__")) := by
    obtain ⟨cd, hc, _⟩ := any_some c.hd
    unfold findObj
    rw [hc, Option.bind_some, c.ha, Option.bind_some]
    simp [c.hn, c.ht]
  refine ⟨fun _ _ _ I => I.type, ?_, ?_, ?_⟩
  · intro M h X _ A Q E s k q
    unfold isType loadHead
    cases e : clsIn K D with
    | none => exact absurd e hob
    | some cd =>
      unfold clsIn at e
      split at e
      · rename_i ho
        exact wpAny_bind (wpAny_loadPart (k _ _ (X _ _ ho)) (wpAny_pure q))
      · cases e
  · intro h tp dd its n sl X htp
    cases e : clsIn K D with
    | none => exact absurd e hob
    | some cd =>
      unfold clsIn at e
      split at e
      · rename_i ho
        refine Bool.eq_false_iff.mpr fun q => ?_
        obtain rfl : D = tp := Value.ref.inj (beq_iff_eq.mp q)
        rw [X _ _ ho] at htp
        cases htp
      · cases e
  · intro prog w A E Q s X I fin
    obtain ⟨hp, g, d, t, os⟩ := s
    have ty := I.type (M := model prog w)
    have lk1 := looks_findIn (M := model prog w) X c.hg
    have lk2 := looks_findIn (M := model prog w) X c.hk
    have lk3 := looks_find (M := model prog w) X I found
    have sb : Looks (model prog w) hp (isInstance (.ref x) (.type "BaseException")) true := ty.andThen (looks_subIn X c.hs)
    have n0 : (Value.builtin "BaseException.__getattribute__" == Value.builtin "object.__getattribute__") = false := by decide +kernel
    have n1 : (onTheHeap (Value.ref D) && Value.builtin "BaseException.__getattribute__" == Value.builtin "object.__getattribute__") = false := by rw [n0]; rfl
    have n2 : (false && onTheHeap (Value.builtin "BaseException.__getattribute__")) = false := rfl
    unfold getAttr? getAttrBy? getAttrBy
    refine wpAny_bind (wpAny_mkText (wpAny_bind (wpAny_attempt (wpAny_holding (wpAny_bind (ty.at (wpAny_bind (lk1.at ?_))))))))
    show wpAny _ _ (if (onTheHeap (Value.ref D) && Value.builtin "BaseException.__getattribute__" == Value.builtin "object.__getattribute__") = true then _ else _) _ _ _
    rw [n1, if_neg Bool.false_ne_true]
    unfold getAttrByItsOwn hookBefore
    refine wpAny_bind ?_
    rw [if_pos (show onTheHeap (Value.ref D) = true from rfl)]
    refine lk2.at (wpAny_bind (wpAny_attempt (wpAny_holding ?_)))
    unfold callGetattribute
    rw [n2, if_neg Bool.false_ne_true]
    unfold boundAndCalled
    rw [PySem.F.excAttr_ValueError.ga.bind (.ref x)]
    refine wpAny_bind (wpAny_pure ?_)
    show wpAny _ _ (call (.builtin "BaseException.__getattribute__") [.ref x, .str "__class__" t]) _ _ _
    refine wpAny_call (codeAny_call_builtin PySem.F.excAttr_ValueError.ga.plain PySem.F.entry_bexc_ga ?_)
    refine @check_slot (model prog w) _ _ ⟨hp, g, d, t + 1, os⟩ "BaseException.__getattribute__" "BaseException" "__getattribute__" (.ref x) [.str "__class__" t] [] _ (by decide +kernel) (by decide +kernel) sb (PySem.F.args_bexc_ga (.ref x) (.str "__class__" t)) ?_
    unfold Builtin.«object.__getattribute__»
    refine wpAny_bind (wpAny_of_eq (a := ((Value.ref x : Value), [Value.str "__class__" t])) (by first | rfl | (simp only [slotArgs]; rfl)) ?_)
    refine wpAny_bind (wpAny_pure (wpAny_bind (ty.at (wpAny_bind (lk3.at ?_)))))
    show wpAny _ _ (holding [Value.builtin "object.__class__"] (call (.builtin "getset_descriptor.__get__") [.builtin "object.__class__", .ref x, .ref D]) >>= ret) _ _ _
    refine wpAny_bind (wpAny_holding (wpAny_call (class_get (s := ⟨hp, g, d, t + 1, os⟩) (ox := ox) (od := od) X I c.hm (wpAny_pure ?_))))
    show wpAny _ _ (handedOut (.ref D)) _ _ _
    rw [handedOut_of (v := .ref D) rfl]
    first
      | exact wpAny_pure (wpAny_pure fin)
      | exact wpAny_pure fin
      | exact wpAny_pure (wpAny_bind (wpAny_pure (wpAny_pure fin)))
end
/-- isinstance(e, c), e a made exception, c one class -/
def rIsX (K : PySem.W.Frag) : List V → Hp → VK → Prop := fun xs H Q => ∃ (a C : Addr) (c : V) (u : Value) (b : Bool), xs = [.ref a, c] ∧ ClsV c u ∧ ExcC K C ∧ (H a = some (exo a C none) ∨ ∃ dx fs, H a = some (exo a C (some dx)) ∧ H dx = some (exd dx fs)) ∧
  PySem.W.kitOne K (.ref C) u = some b ∧ Q (.bl b) H
theorem call_isX {X : Cx} : CallR X (.builtin "isinstance") (rIsX X.K) := by
  intro pins s σ H xs us Q I r h
  obtain ⟨a, C, c, u, b, rfl, cv, ec, obj, kit, q⟩ := h
  obtain ⟨u1, u2, rfl, r1, r2⟩ := vals2 r
  cases r1
  obtain rfl := cv.eq r2
  have hob : PySem.W.clsIn X.K C ≠ none := by
    obtain ⟨cd, hc, _⟩ := PySem.W.any_some ec.hd
    rw [hc]
    simp
  rcases obj with e | ⟨dx, fs, e, ed⟩
  · obtain ⟨t1, at_⟩ := exo_at I.hok e
    exact PySem.W.kia_one (kitxV (od := none) ec hob) I.kIn ⟨at_, rfl, rfl, trivial⟩ kit (fun z => nomatch z) fun tk => ⟨.bl b, H, I.tok tk, rfl, q⟩
  · obtain ⟨t1, at_⟩ := exo_at I.hok e
    obtain ⟨mA, hns, rel⟩ := exd_at I.hok ed
    obtain ⟨od, hod, _⟩ := lookIn_ns hns
    exact PySem.W.kia_one (kitxV (od := some od) ec hob) I.kIn ⟨at_, rfl, rfl, hod⟩ kit (fun z => nomatch z) fun tk => ⟨.bl b, H, I.tok tk, rfl, q⟩
end Tk
set_option Elab.async false
set_option maxRecDepth 100000
set_option maxHeartbeats 4000000
/-! Data of any depth that stands apart from one address; how long it is shown. -/
namespace Tk
open PySem PySem.Spec PyProof.Rows L2
mutual
inductive Da (S : Addr → Prop) (H : Hp) : V → PyData → Prop
  | non : Da S H .non .none
  | bl (b : Bool) : Da S H (.bl b) (.bool b)
  | int (i : Int) : Da S H (.int i) (.int i)
  | str (x : Str) : Da S H (.str x) (.str x)
  | lst {p : Addr} {xs : List V} {ds : List PyData} : S p → H p = some (.lst xs) → DaAll S H xs ds → Da S H (.ref p) (.list ds)
  | tup {p : Addr} {xs : List V} {ds : List PyData} : S p → H p = some (.tup xs) → DaAll S H xs ds → Da S H (.ref p) (.tuple ds)
inductive DaAll (S : Addr → Prop) (H : Hp) : List V → List PyData → Prop
  | nil : DaAll S H [] []
  | cons {v : V} {vs : List V} {d : PyData} {ds : List PyData} : Da S H v d → DaAll S H vs ds → DaAll S H (v :: vs) (d :: ds)
end
section
variable {S S' : Addr → Prop} {H H' : Hp} {K : PySem.W.Frag}
mutual
theorem Da.dp : ∀ (d : PyData) (v : V), Da S H v d → Dp K H v d
  | .none, _, h => by cases h; exact .non
  | .bool b, _, h => by cases h; exact .bl b
  | .int i, _, h => by cases h; exact .int i
  | .str x, _, h => by cases h; exact .str x
  | .list ds, _, h => by
    cases h with
    | lst _ e r => exact .lst (SqL.of e) (DaAll.dp ds _ r)
  | .tuple ds, _, h => by
    cases h with
    | tup _ e r => exact .tup (SqT.of e) (DaAll.dp ds _ r)
  | .dict _, _, h => by cases h
theorem DaAll.dp : ∀ (ds : List PyData) (vs : List V), DaAll S H vs ds → DpAll K H vs ds
  | [], _, h => by cases h; exact .nil
  | d :: ds, _, h => by
    cases h with
    | cons x r => exact .cons (Da.dp d _ x) (DaAll.dp ds _ r)
end
mutual
theorem Da.to (k : ∀ b o, S b → H b = some o → H' b = some o) : ∀ (d : PyData) (v : V), Da S H v d → Da S H' v d
  | .none, _, h => by cases h; exact .non
  | .bool b, _, h => by cases h; exact .bl b
  | .int i, _, h => by cases h; exact .int i
  | .str x, _, h => by cases h; exact .str x
  | .list ds, _, h => by
    cases h with
    | lst n e r => exact .lst n (k _ _ n e) (DaAll.to k ds _ r)
  | .tuple ds, _, h => by
    cases h with
    | tup n e r => exact .tup n (k _ _ n e) (DaAll.to k ds _ r)
  | .dict _, _, h => by cases h
theorem DaAll.to (k : ∀ b o, S b → H b = some o → H' b = some o) : ∀ (ds : List PyData) (vs : List V), DaAll S H vs ds → DaAll S H' vs ds
  | [], _, h => by cases h; exact .nil
  | d :: ds, _, h => by
    cases h with
    | cons x r => exact .cons (Da.to k d _ x) (DaAll.to k ds _ r)
end
mutual
theorem Da.weak (k : ∀ b, S b → S' b) : ∀ (d : PyData) (v : V), Da S H v d → Da S' H v d
  | .none, _, h => by cases h; exact .non
  | .bool b, _, h => by cases h; exact .bl b
  | .int i, _, h => by cases h; exact .int i
  | .str x, _, h => by cases h; exact .str x
  | .list ds, _, h => by
    cases h with
    | lst n e r => exact .lst (k _ n) e (DaAll.weak k ds _ r)
  | .tuple ds, _, h => by
    cases h with
    | tup n e r => exact .tup (k _ n) e (DaAll.weak k ds _ r)
  | .dict _, _, h => by cases h
theorem DaAll.weak (k : ∀ b, S b → S' b) : ∀ (ds : List PyData) (vs : List V), DaAll S H vs ds → DaAll S' H vs ds
  | [], _, h => by cases h; exact .nil
  | d :: ds, _, h => by
    cases h with
    | cons x r => exact .cons (Da.weak k d _ x) (DaAll.weak k ds _ r)
end
theorem DaAll.snoc : ∀ {vs : List V} {ds : List PyData} {v : V} {d : PyData}, DaAll S H vs ds → Da S H v d → DaAll S H (vs ++ [v]) (ds ++ [d])
  | _, _, _, _, .nil, x => .cons x .nil
  | _, _, _, _, .cons y r, x => .cons y (r.snoc x)
theorem DaAll.length : ∀ {vs : List V} {ds : List PyData}, DaAll S H vs ds → vs.length = ds.length
  | _, _, .nil => rfl
  | _, _, .cons _ r => congrArg Nat.succ r.length
theorem DaAll.get : ∀ {vs : List V} {ds : List PyData} {i : Nat} {v : V}, DaAll S H vs ds → vs[i]? = some v → ∃ d, ds[i]? = some d ∧ Da S H v d
  | _, _, _, _, .nil, e => by simp at e
  | _, _, 0, _, .cons x _, e => by simp at e; subst e; exact ⟨_, rfl, x⟩
  | _, _, i + 1, _, .cons _ r, e => by
    obtain ⟨d, h1, h2⟩ := r.get (i := i) (by simpa using e)
    exact ⟨d, by simpa using h1, h2⟩
end
/-- data that is shown in at most m signs, at most k deep -/
structure Fine (m k : Nat) (d : PyData) : Prop where
  shows : d.showable = true
  plain : d.hasDict = false
  dep : d.depth ≤ k
  len : d.shown.length ≤ m
  lay : d.canLay0 = true
theorem Fine.mono {m k m' k' : Nat} {d : PyData} (f : Fine m k d) (h1 : m ≤ m') (h2 : k ≤ k') : Fine m' k' d := ⟨f.shows, f.plain, Nat.le_trans f.dep h2, Nat.le_trans f.len h1, f.lay⟩
theorem Fine.none : Fine 4 0 .none := ⟨rfl, rfl, Nat.le_refl _, by decide +kernel, rfl⟩
theorem Fine.bool (b : Bool) : Fine 5 0 (.bool b) := ⟨rfl, rfl, Nat.le_refl _, by cases b <;> decide +kernel, rfl⟩
theorem fine_all {m k : Nat} : ∀ {ds : List PyData}, (∀ d ∈ ds, Fine m k d) → PyData.showableAll ds = true ∧ PyData.hasDictAll ds = false ∧ PyData.depthAll ds ≤ k ∧ piled (PyData.shownAll ds) ≤ (m + 2) * ds.length ∧ PyData.canLayAll0 ds = true
  | [], _ => ⟨rfl, rfl, Nat.zero_le _, Nat.zero_le _, rfl⟩
  | d :: ds, h => by
    obtain ⟨a1, a2, a3, a4, a5⟩ := fine_all (ds := ds) fun e he => h e (List.mem_cons_of_mem _ he)
    have f := h d List.mem_cons_self
    refine ⟨?_, ?_, ?_, ?_, ?_⟩
    · simp only [PyData.showableAll, f.shows, a1, Bool.and_self]
    · simp only [PyData.hasDictAll, f.plain, a2, Bool.or_self]
    · simp only [PyData.depthAll]
      exact Nat.max_le.mpr ⟨f.dep, a3⟩
    · have l := f.len
      simp only [PyData.shownAll, piled_cons, List.length_cons, Nat.mul_add, Nat.mul_one]
      omega
    · simp only [PyData.canLayAll0, f.lay, a5, Bool.and_self]
theorem listText_le (ts : List Str) : (listText ts).length ≤ piled ts + 2 := by
  cases ts with
  | nil => decide +kernel
  | cons t r =>
    have h := textFrom_length_pos r 1 (("[" : Str) ++ (if (0 : Nat) > 0 then ", " else "" : String) ++ t) (Nat.succ_pos 0)
    have e : (listText (t :: r)).length = (textFrom 1 (("[" : Str) ++ (if (0 : Nat) > 0 then ", " else "" : String) ++ t) r).length + 1 := by
      show (textFrom 0 "[" (t :: r) ++ "]").length = _
      rw [strLen_append]; rfl
    have e2 : ((("[" : Str) ++ (if (0 : Nat) > 0 then ", " else "" : String) ++ t)).length = 1 + t.length := by
      rw [strLen_append, strLen_append]; rfl
    rw [e, h, e2, piled_cons]
    omega
theorem tupleText_le (ts : List Str) : (tupleText ts).length ≤ piled ts + 2 := by
  have close : (((if ts.length == 1 then ",)" else ")" : String) : Str)).length ≤ 2 := by split <;> decide +kernel
  have opn : ((("(" : String) : Str)).length = 1 := rfl
  by_cases h : ts = []
  · subst h
    decide +kernel
  · have j := join_length_add ts h
    unfold tupleText
    rw [strLen_append, strLen_append, opn]
    omega
theorem Fine.list {m k : Nat} {ds : List PyData} (h : ∀ d ∈ ds, Fine m k d) : Fine ((m + 2) * ds.length + 2) (k + 1) (.list ds) := by
  obtain ⟨a1, a2, a3, a4, a5⟩ := fine_all h
  refine ⟨by simpa [PyData.showable] using a1, by simpa [PyData.hasDict] using a2, ?_, ?_, by simpa [PyData.canLay0] using a5⟩
  · simp only [PyData.depth]; omega
  · simp only [PyData.shown]
    exact Nat.le_trans (listText_le _) (by omega)
theorem Fine.tuple {m k : Nat} {ds : List PyData} (h : ∀ d ∈ ds, Fine m k d) : Fine ((m + 2) * ds.length + 2) (k + 1) (.tuple ds) := by
  obtain ⟨a1, a2, a3, a4, a5⟩ := fine_all h
  refine ⟨by simpa [PyData.showable] using a1, by simpa [PyData.hasDict] using a2, ?_, ?_, by simpa [PyData.canLay0] using a5⟩
  · simp only [PyData.depth]; omega
  · simp only [PyData.shown]
    exact Nat.le_trans (tupleText_le _) (by omega)
end Tk
set_option Elab.async false
set_option maxRecDepth 100000
set_option maxHeartbeats 4000000
/-! Walks over what is a list or a tuple; enumerate of a tuple. -/
namespace PySem
open AutoSeq1 (wpAny_loadPart')
theorem meets_enumT (l : Addr) (items : Array Value) (n : Nat) (dct : Option Addr) (sl : Array (Option Value)) :
    Meets (Builtin.«enumerate.__new__» ⟨[.type "enumerate", .ref l], []⟩) (fun _ R s => s.heap.get? l = some { cls := .type "tuple", dict := dct, data := .seq items n, slots := sl } ∧
      R (.ok (.ret (.ref (s.heap.push { cls := .type "tuple_iterator", data := .fields #[.ref l, .int 0 0] }).objs.size)))
        { s with heap := (s.heap.push { cls := .type "tuple_iterator", data := .fields #[.ref l, .int 0 0] }).push { cls := .type "enumerate", data := .fields #[.none, .bool false, .ref s.heap.objs.size, rawInt 0, .none, .none] } }) :=
  .of_wp fun prog w A R s h => by
    obtain ⟨hp, g, d, tk, os⟩ := s
    obtain ⟨hl, fin⟩ := h
    have sb := sub_enumerate
    have isT : Heap.IsTuple (Shared.heap ⟨hp, g, d, tk, os⟩) l items := ⟨_, hl, rfl, n, rfl⟩
    wp_walk using wpAny_loadPart' hl
    refine wpAny_stack_any fun _ => wpAny_pure ?_
    split
    · rename_i c _ _ _ _ _
      cases (c == Value.type "enumerate") <;>
      · wp_walk using wpAny_loadPart' hl, wpAny_pyIter_tuple isT
        exact ⟨_, rfl, fin⟩
    · wp_walk using wpAny_loadPart' hl, wpAny_pyIter_tuple isT
      exact ⟨_, rfl, fin⟩
theorem call_enumT {prog : Program} {w : World} {A : Around} {E : Value → Shared → Prop} {s : Shared} {l : Addr} {items : Array Value} {Q : Value → Shared → Prop} (isT : s.heap.IsTuple l items)
    (fin : ∀ h', IsEnum h' (s.heap.objs.size + 1) s.heap.objs.size 0 .none → h'.IsTupleIter s.heap.objs.size l 0 → h'.objs.size = s.heap.objs.size + 2 →
      (∀ b o, s.heap.get? b = some o → h'.get? b = some o) → Q (.ref (s.heap.objs.size + 1)) { s with heap := h' }) :
    wpAny (model prog w) A (call (.type "enumerate") [.ref l]) Q E s := by
  obtain ⟨⟨c, dct, dt, sl⟩, hl, hc, n, hd⟩ := isT
  obtain rfl : c = .type "tuple" := hc
  obtain rfl : dt = .seq items n := hd
  refine callType_new F.called_enumerate (by decide) (F.typeCall_enumerate_1 _) (F.newCall_enumerate_1 _) (fun obj => F.args_object_init_2 obj _) F.entry_enumerate_new (meets_enumT l items n dct sl) ⟨hl, ?_⟩
  have z : (s.heap.push { cls := .type "tuple_iterator", data := .fields #[.ref l, .int 0 0] }).objs.size = s.heap.objs.size + 1 := Heap.size_push ..
  show _ ∧ _
  rw [z]
  have en : IsEnum ((s.heap.push { cls := .type "tuple_iterator", data := .fields #[.ref l, .int 0 0] }).push { cls := .type "enumerate", data := .fields #[.none, .bool false, .ref s.heap.objs.size, rawInt 0, .none, .none] }) (s.heap.objs.size + 1) s.heap.objs.size 0 .none := by
    have g := Heap.get?_push_size (s.heap.push { cls := .type "tuple_iterator", data := .fields #[.ref l, .int 0 0] }) (o := { cls := .type "enumerate", data := .fields #[.none, .bool false, .ref s.heap.objs.size, rawInt 0, .none, .none] }) rfl
    rw [z] at g
    exact g
  exact ⟨⟨_, en, rfl⟩, fin _ en ⟨_, Heap.get?_push_of_some _ (Heap.get?_push_size _ rfl), rfl, rfl⟩ (by rw [Heap.size_push, z]) fun b o x => Heap.get?_push_of_some _ (Heap.get?_push_of_some _ x)⟩
end PySem
namespace Tk
open PySem PySem.Spec PyProof.Rows L2
/-- a list or a tuple -/
def SqE (K : PySem.W.Frag) (H : Hp) (a : Addr) (xs : List V) : Prop := SqL K H a xs ∨ SqT K H a xs
/-- what stands at a stays -/
def At (H : Hp) (a : Addr) : Hp → Prop := fun H' => ∀ o, H a = some o → H' a = some o
theorem At.list {K : PySem.W.Frag} {H H' : Hp} {a : Addr} {xs : List V} (h : SqL K H a xs) (k : At H a H') : SqL K H' a xs := by
  rcases h with (h | ⟨o, h⟩) | h
  · exact .inl (.inl (k _ h))
  · exact .inl (.inr ⟨o, k _ h⟩)
  · exact .inr h
theorem At.tup {K : PySem.W.Frag} {H H' : Hp} {a : Addr} {xs : List V} (h : SqT K H a xs) (k : At H a H') : SqT K H' a xs := by
  rcases h with (h | ⟨o, h⟩) | h
  · exact .inl (.inl (k _ h))
  · exact .inl (.inr ⟨o, k _ h⟩)
  · exact .inr h
theorem At.either {K : PySem.W.Frag} {H H' : Hp} {a : Addr} {xs : List V} (h : SqE K H a xs) (k : At H a H') : SqE K H' a xs := h.imp (At.list · k) (At.tup · k)
/-- enumerate(tuple) -/
def IteT (K : PySem.W.Frag) (a : Addr) : It :=
  ⟨fun i H => ∃ (xs : List V) (x : V), SqT K H a xs ∧ xs[i]? = some x, fun i H v H' => ∃ T x, v = .ref T ∧ H T = none ∧ H' = upd H T (.tup [.int (i : Nat), x]) ∧ ∀ xs, SqT K H a xs → xs[i]? = some x, fun i H => ∃ xs : List V, SqT K H a xs ∧ xs.length ≤ i⟩
theorem turnT {P : Program} {w : World} {K : PySem.W.Frag} {elts : List Expr} {kk : Nat} {tpos : Pos} (a e it : Addr) :
    Turn P w K (.Tuple elts kk tpos) (IteT K a) [e, it] e (fun i h => (∃ old, IsEnum h e it ((i : Nat) : Int) old) ∧ h.IsTupleIter it a i ∧ e ≠ it) where
  mem := List.mem_cons_self
  obj := by
    rintro i h ⟨⟨old, he⟩, ⟨o, ho, hc, hd⟩, _⟩ b hb
    rcases List.mem_cons.mp hb with rfl | hb
    · exact ⟨_, he, fun v q => nomatch q⟩
    · obtain rfl := List.mem_singleton.mp hb
      exact ⟨o, ho, fun v q => by rw [hd] at q; cases q⟩
  keep := by
    rintro i h h' ⟨⟨old, he⟩, hi, hne⟩ k
    exact ⟨⟨old, k e List.mem_cons_self _ he⟩, hi.at fun o q => k it (by simp) o q, hne⟩
  item := by
    intro X hP hw hK hc i pins s σ H E I hf st hg
    subst hP hw hK
    obtain ⟨⟨old, he⟩, hit, hne⟩ := st
    obtain ⟨xs, x, hq, hx⟩ := hg
    obtain ⟨its, rv, isT, _⟩ := I.tuple hq
    obtain ⟨u, hu, ru⟩ := rv.get hx
    have isT' : s.heap.IsTuple a its.toArray := isT
    have le : e < s.heap.objs.size := Heap.lt_size he
    have li : it < s.heap.objs.size := by
      obtain ⟨_, q, _⟩ := hit
      exact Heap.lt_size q
    have ai : a ≠ it := by
      rintro rfl
      obtain ⟨o1, q1, c1, _⟩ := hit
      obtain ⟨o2, q2, c2, _⟩ := isT'
      rw [q1] at q2
      cases q2
      rw [c1] at c2
      injection c2 with z
      exact absurd z (by decide)
    have ae : e ∉ [it, a] := by
      intro m
      rcases List.mem_cons.mp m with q | m
      · exact hne q
      · obtain rfl := List.mem_singleton.mp m
        obtain ⟨o2, q2, c2, _⟩ := isT'
        rw [he] at q2
        cases q2
        injection c2 with z
        exact absurd z (by decide)
    have lt : i < its.toArray.size := by
      have := (List.getElem?_eq_some_iff.mp hu).1
      simpa using this
    have hand : X.A.in1.handled = none := I.ok.hd hc
    refine wpAny_pyNext_enum_itemD (Draws.tuple hand it a ai its.toArray) he ⟨hit, isT'⟩ lt hne ae ?_
    intro y h' tk hy out st' tupN sz keep
    obtain rfl : u = y := by
      have hy' : its.toArray[i]? = some y := hy
      rw [List.getElem?_toArray, hu] at hy'
      exact Option.some.inj hy'
    refine ⟨_, rfl, wpAny_letOwnedTupleGo_enum (s := { s with heap := h', toks := tk + 1 }) out fun h'' he' sb => ?_⟩
    have tup2 : h''.get? s.heap.objs.size = some { cls := .type "tuple", data := .seq #[.int i tk, u] } := (sb.2 _ (Nat.ne_of_gt le)).trans tupN
    have new : ObjOk X.prog X.w (upd H s.heap.objs.size (.tup [.int (i : Nat), x])) h'' s.heap.objs.size (.tup [.int (i : Nat), x]) :=
      ⟨by show 2 ≤ sizeLine; decide, [.int i tk, u], .cons ⟨_, rfl⟩ (.cons ru .nil), ⟨_, tup2, rfl, _, rfl⟩⟩
    have old_ : ∀ b ob, b ∉ [e, it] → s.heap.get? b = some ob → h''.get? b = some ob := fun b ob hb q =>
      (sb.2 b (fun z => hb (by simp [z]))).trans (keep b ob (fun z => hb (by simp [z])) (fun z => hb (by simp [z])) q)
    refine ⟨.ref s.heap.objs.size, _, I.turnedNew (ch := [e, it]) old_ hf (Nat.le_refl _) new, rfl, ⟨_, x, rfl, I.hok.fresh (Nat.le_refl _), rfl, ?_⟩, ⟨⟨u, ?_⟩, st'.1.at fun o q => (sb.2 it (Ne.symm hne)).trans q, hne⟩, ?_⟩
    · intro ys hy
      rw [I.tuple_inj hy hq]
      exact hx
    · have e1 : ((i + 1 : Nat) : Int) = (i : Int) + 1 := by omega
      rw [e1]
      exact he'
    · intro b hb
      have lb : b < s.heap.objs.size := by
        rcases List.mem_cons.mp hb with rfl | hb
        · exact le
        · obtain rfl := List.mem_singleton.mp hb
          exact li
      rw [upd_ne (Nat.ne_of_lt lb)]
      exact (hf b hb).1
  done := by
    intro X hP hw hK hc i pins s σ H E I hf st hg
    subst hP hw hK
    obtain ⟨⟨old, he⟩, hit, hne⟩ := st
    obtain ⟨xs, hq, hx⟩ := hg
    obtain ⟨its, rv, isT, _⟩ := I.tuple hq
    obtain ⟨f0, f1, f2, f3, f4, f5⟩ := hf it (by simp)
    have isT' : s.heap.IsTuple a its.toArray := isT
    have hand : X.A.in1.handled = none := I.ok.hd hc
    have none_ : its.toArray[i]? = none := by
      have := rv.length
      simp
      omega
    have D : Draws X.prog X.w X.A.in1 it [it, a] i (fun _ _ => False) (fun j h => j = i ∧ h.IsTupleIter it a i ∧ h.IsTuple a its.toArray) :=
      { live := fun _ _ st => let ⟨o, ho, _⟩ := st.2.1; ⟨o, ho⟩
        frame := fun _ _ _ st hk => ⟨st.1, st.2.1.at fun o e => hk it (by simp) o e, st.2.2.at fun o e => hk a (by simp) o e⟩
        item := fun j s Q E lt st => absurd st.1 (Nat.ne_of_lt lt)
        done := fun s Q E st hE => wpAny_nextOf_tuple_end hand st.2.1 st.2.2 none_ hE }
    exact wpAny_pyNext_enum_endD D he ⟨rfl, hit, isT'⟩ fun h' eb => ⟨rfl, I.turned (t' := s.toks) (fun b o hb q => eb b o hb q) f0 f1 f3 f4 f5⟩
  self := by
    rintro A i s Q E ⟨⟨_, he⟩, _⟩ h
    exact wpAny_pyIter_enum he h
theorem walkT {K : PySem.W.Frag} {a : Addr} {xs : List V} : Walk (IteT K a) xs.length (fun H => SqT K H a xs) (YPair (fun i => some (.int (i : Nat))) (fun i => xs[i]?)) := by
  refine ⟨fun i _ hi q => ⟨xs, xs[i], q, by simp [hi]⟩, fun _ q => ⟨xs, q, Nat.le_refl _⟩, fun i H v H' _ q y => ?_⟩
  obtain ⟨T, x, h1, h2, h3, h4⟩ := y
  exact ⟨T, .int (i : Nat), x, h1, h2, h3, rfl, h4 xs q⟩
/-- for x in y, y a list or a tuple -/
def iSeq (K : PySem.W.Frag) (tl : TE) : TI := fun σ H R => tl σ H fun x H1 => ∃ a xs, x = .ref a ∧ SqE K H1 a xs ∧ ∀ J, Walk J xs.length (At H1 a) (YAt xs) → R J H1
/-- for i, x in enumerate(y), y a list or a tuple -/
def iEnumS (K : PySem.W.Frag) (ta : TA) : TI := fun σ H R => ta σ H fun vs H1 => ∃ a xs, vs = [.ref a] ∧ SqE K H1 a xs ∧ ∀ J, Walk J xs.length (At H1 a) (YPair (fun i => some (.int (i : Nat))) (fun i => xs[i]?)) → R J H1
theorem pi_seq {X : Cx} {tg l : Expr} {tl : TE} (hl : PE X l tl) : PI X tg l (iSeq X.K tl) := by
  constructor
  intro pins s σ H R I h
  refine thn (hl.run pins s σ H _ I h) ?_
  rintro v s1 ⟨x, H1, I1, r1, a, xs, rfl, sq, q⟩
  cases r1
  have free : ∀ b ∈ [s1.heap.objs.size], FpOk X pins H1 b := fun b hb => by
    obtain rfl := List.mem_singleton.mp hb
    exact I1.fpOk (Nat.le_refl _) (I1.hok.fresh (Nat.le_refl _))
  have kp : ∀ (u : Obj) b o, s1.heap.get? b = some o → (s1.heap.push u).get? b = some o := fun u b o e => Heap.get?_push_of_some _ e
  rcases sq with sq | sq
  · obtain ⟨its, rv, isL, _⟩ := I1.list sq
    exact wpAny_pyIter_list isL.isList ⟨s1.heap.objs.size, [s1.heap.objs.size], _, _, H1, rfl, I1.kept (t' := s1.toks) (kp _), turn_list a _, ⟨_, Heap.get?_push_size _ rfl, rfl, rfl⟩, free, q _ (walk_list.mono (fun _ k => At.list sq k) fun _ _ _ _ _ _ y => y)⟩
  · obtain ⟨its, rv, isT, _⟩ := I1.tuple sq
    exact wpAny_pyIter_tuple (show s1.heap.IsTuple a its.toArray from isT) ⟨s1.heap.objs.size, [s1.heap.objs.size], _, _, H1, rfl, I1.kept (t' := s1.toks) (kp _), turn_tuple a _, ⟨_, Heap.get?_push_size _ rfl, rfl, rfl⟩, free, q _ (walk_tup.mono (fun _ k => At.tup sq k) fun _ _ _ _ _ _ y => y)⟩
theorem pi_enumS {X : Cx} {e : Expr} {ta : TA} {p pos tpos : Pos} {elts : List Expr} {kk : Nat} (hg : Gl X "enumerate") (hm : X.mg "enumerate" = none) (ha : PA X [e] ta) (hs : starEach [e] X.env = [(false, eval e X.env)] := by rfl) :
    PI X (.Tuple elts kk tpos) (.Call (.Name "enumerate" p) [e] [] pos) (iEnumS X.K ta) := by
  constructor
  intro pins s σ H R I h
  refine Call_ (ld_blt I hg hm boot_enumerate (PyProof.Rows.callWith_type1 (thn (ha.run pos pins s σ H _ I h) ?_) hs rfl))
  rintro us s1 ⟨vs, H1, I1, r1, a, xs, rfl, sq, q⟩
  obtain ⟨u, rfl, ru⟩ := vals1 r1
  cases ru
  have free : ∀ (h' : Heap), (∀ b o, s1.heap.get? b = some o → h'.get? b = some o) → ∀ b ∈ [s1.heap.objs.size + 1, s1.heap.objs.size], FpOk X pins H1 b := fun h' k b hb => by
    have le : s1.heap.objs.size ≤ b := by
      rcases List.mem_cons.mp hb with rfl | hb
      · exact Nat.le_succ _
      · obtain rfl := List.mem_singleton.mp hb
        exact Nat.le_refl _
    exact I1.fpOk le (I1.hok.fresh le)
  rcases sq with sq | sq
  · obtain ⟨its, rv, isL, _⟩ := I1.list sq
    refine call_enumerate_list isL.isList fun h' en it sz k => wpAny_pyIter_enum en ?_
    exact ⟨s1.heap.objs.size + 1, [s1.heap.objs.size + 1, s1.heap.objs.size], _, _, H1, rfl, I1.kept (t' := s1.toks) k, turn_enum a _ _, ⟨⟨.none, en⟩, it, Nat.succ_ne_self _⟩, free h' k, q _ (walk_enum.mono (fun _ k => At.list sq k) fun _ _ _ _ _ _ y => y)⟩
  · obtain ⟨its, rv, isT, _⟩ := I1.tuple sq
    refine call_enumT (show s1.heap.IsTuple a its.toArray from isT) fun h' en it sz k => wpAny_pyIter_enum en ?_
    exact ⟨s1.heap.objs.size + 1, [s1.heap.objs.size + 1, s1.heap.objs.size], _, _, H1, rfl, I1.kept (t' := s1.toks) k, turnT a _ _, ⟨⟨.none, en⟩, it, Nat.succ_ne_self _⟩, free h' k, q _ (walkT.mono (fun _ k => At.tup sq k) fun _ _ _ _ _ _ y => y)⟩
end Tk
set_option Elab.async false
set_option maxRecDepth 100000
set_option maxHeartbeats 4000000
/-! Data: its kind, what keeps it; a new instance whose __init__ may raise; the class of a caught error. -/
namespace Tk
open PySem PySem.Spec PyProof.Rows L2
theorem seqT_same {K : PySem.W.Frag} {H H' : Hp} {a : Addr} {xs : List V} (e : Same H H') (h : SqT K H a xs) : SqT K H' a xs := At.tup h fun o q => e _ _ q
section
variable {K : PySem.W.Frag} {H H' : Hp}
mutual
theorem dp_keep (k : Same H H') : ∀ (d : PyData) (v : V), Dp K H v d → Dp K H' v d
  | .none, _, h => by cases h; exact .non
  | .bool b, _, h => by cases h; exact .bl b
  | .int i, _, h => by cases h; exact .int i
  | .str x, _, h => by cases h; exact .str x
  | .list ds, _, h => by
    cases h with
    | lst e r => exact .lst (k.seq e) (dpAll_keep k ds _ r)
  | .tuple ds, _, h => by
    cases h with
    | tup e r => exact .tup (seqT_same k e) (dpAll_keep k ds _ r)
  | .dict _, _, h => by cases h
theorem dpAll_keep (k : Same H H') : ∀ (ds : List PyData) (vs : List V), DpAll K H vs ds → DpAll K H' vs ds
  | [], _, h => by cases h; exact .nil
  | d :: ds, _, h => by
    cases h with
    | cons x r => exact .cons (dp_keep k d _ x) (dpAll_keep k ds _ r)
end
theorem dpAll_len : ∀ {vs : List V} {ds : List PyData}, DpAll K H vs ds → vs.length = ds.length
  | _, _, .nil => rfl
  | _, _, .cons _ r => congrArg Nat.succ (dpAll_len r)
theorem dpAll_at : ∀ {vs : List V} {ds : List PyData} {i : Nat} {v : V}, DpAll K H vs ds → vs[i]? = some v → ∃ d, ds[i]? = some d ∧ Dp K H v d
  | _, _, _, _, .nil, e => by simp at e
  | _, _, 0, _, .cons x _, e => by simp at e; subst e; exact ⟨_, rfl, x⟩
  | _, _, i + 1, _, .cons _ r, e => by
    obtain ⟨d, h1, h2⟩ := dpAll_at (i := i) r (by simpa using e)
    exact ⟨d, by simpa using h1, h2⟩
theorem dpAll_snoc : ∀ {vs : List V} {ds : List PyData} {v : V} {d : PyData}, DpAll K H vs ds → Dp K H v d → DpAll K H (vs ++ [v]) (ds ++ [d])
  | _, _, _, _, .nil, x => .cons x .nil
  | _, _, _, _, .cons y r, x => .cons y (dpAll_snoc r x)
end
/-- a value's kind -/
def kindOf : PyData → String
  | .none => "NoneType"
  | .bool _ => "bool"
  | .int _ => "int"
  | .str _ => "str"
  | .list _ => "list"
  | .tuple _ => "tuple"
  | .dict _ => "dict"
theorem dp_kind {K : PySem.W.Frag} {H : Hp} {v : V} {d : PyData} (h : Dp K H v d) : TyX K H v (.type (kindOf d)) := by
  cases h with
  | non => exact .base .non
  | bl b => exact .base (.bl b)
  | int i => exact .base (.int i)
  | str x => exact .base (.str x)
  | lst e r =>
    rcases e with (e | ⟨o, e⟩) | ⟨o, its, n, e, c, _⟩
    · exact .base (.lst e)
    · exact .base (.frz e)
    · exact .kList e c
  | tup e r =>
    rcases e with (e | ⟨o, e⟩) | ⟨o, its, n, e, c, _⟩
    · exact .base (.tup e)
    · exact .fTuple e
    · exact .kTuple e c
def isI : PyData → Bool | .int _ => true | _ => false
def isB : PyData → Bool | .bool _ => true | _ => false
def isSeq : PyData → Bool | .list _ => true | .tuple _ => true | _ => false
theorem kit_int {K : PySem.W.Frag} (d : PyData) : PySem.W.kitOne K (.type (kindOf d)) (.type "int") = some (isI d || isB d) := kit_ty (by cases d <;> (dsimp only [kindOf, isI, isB]; decide +kernel))
theorem kit_bool {K : PySem.W.Frag} (d : PyData) : PySem.W.kitOne K (.type (kindOf d)) (.type "bool") = some (isB d) := kit_ty (by cases d <;> (dsimp only [kindOf, isI, isB]; decide +kernel))
theorem kit_seq {K : PySem.W.Frag} (d : PyData) : PySem.W.kitAny K (.type (kindOf d)) [.type "list", .type "tuple"] = some (isSeq d) := by
  cases d <;> first
    | exact kitAny_cons (b := true) (kit_ty (by dsimp only [kindOf]; decide +kernel)) (fun h => by cases h) (fun _ => rfl)
    | exact kitAny_cons (b := false) (kit_ty (by dsimp only [kindOf]; decide +kernel)) (fun _ => kitAny_cons (b := true) (kit_ty (by dsimp only [kindOf]; decide +kernel)) (fun h => by cases h) (fun _ => rfl)) (fun h => by cases h)
    | exact kitAny_cons (b := false) (kit_ty (by dsimp only [kindOf]; decide +kernel)) (fun _ => kitAny_cons (b := false) (kit_ty (by dsimp only [kindOf]; decide +kernel)) (fun _ => kitAny_nil) (fun h => by cases h)) (fun h => by cases h)
/-- C(..), __init__ may raise; what is raised is wished for at the caller's slots -/
def tMakeSX (C : Addr) (sp : Sp) (E : L2.St → XK) (t : TA) : TE := fun σ H Q => t σ H fun vs H1 => ∀ x dx, H1 x = none → H1 dx = none → dx ≠ x →
  sp (.ref x :: vs) (upd (upd H1 dx (.own x)) x (.ins C dx [])) (fun v H2 => v = .non ∧ Q (.ref x) H2) (E σ)
theorem pe_makeSX {X : Cx} {k : Nat} {f C : Addr} {fd : FuncData} {ps : List Str} {sp : Sp} {W : WX} {pn : List (Addr × Obj)} {x : Str} {p pos : Pos} {e : Expr} {es : List Expr} {t : TA} (M : Mk X.K C f) (F : FnOk X.prog X.w X.K X.mg X.base (L2.CX X.prog X.w) k f fd ps sp) (hr : Room (k + 1) X.A)
    (hg : Gl X x) (hm : X.mg x = some (.ref C)) (hb : Binds X.K fd ps []) (land : ∀ (pins : List (Addr × Obj)) (σ : L2.St) (H : Hp) (s : Shared) (x dx : Addr) (e : Value) (s' : Shared), Inv X pins σ (upd (upd H dx (.own x)) x (.ins C dx [])) s → L2.CX X.prog X.w X.stack (upd (upd H dx (.own x)) x (.ins C dx [])) s (WE W σ) e s' → X.xe e s')
    (ha : PA X (e :: es) t) (hdb : (x == ("__debug__" : Str)) = false := by decide) (he : starEach (e :: es) X.env = (false, eval e X.env) :: starEach es X.env := by rfl) (hpl : (backTo pos (starEach es X.env)).any (·.1) = false := by rfl) :
    PE X (.Call (.Name x p) (e :: es) [] pos) (tMakeSX C sp (WE W) t) := by
  constructor
  intro pins s σ H Q I h
  refine wpAny_Call_Name_kw (ld_glob I hg hm ?_ hdb)
  refine PySem.W.callWith_K (h₀ := X.base) I.ok.mod.kin M.kp ?_ he hpl
  refine thn (ha.run pos pins s σ H _ I h) ?_
  rintro us s1 ⟨vs, H1, I1, r, q⟩
  refine ⟨I1.kIn, ?_⟩
  have ask := q (s1.heap.objs.size + 1) s1.heap.objs.size (I1.hok.fresh (Nat.le_succ _)) (I1.hok.fresh (Nat.le_refl _)) (Nat.ne_of_lt (Nat.lt_succ_self _))
  have J := Inv.made (C := C) I1
  have rel : Vals (V.ref (s1.heap.objs.size + 1) :: vs) (Value.ref (s1.heap.objs.size + 1) :: us) := .cons rfl r
  have len : (Value.ref (s1.heap.objs.size + 1) :: us).length = ps.length := rel.length.symm.trans (F.len _ _ _ _ ask)
  have bnd := hb _ (Value.ref (s1.heap.objs.size + 1) :: us) J.kIn (by rw [List.append_nil]; exact len)
  rw [List.append_nil] at bnd
  refine wpAny_call (make_map (f := f) I1.kIn M.makes M.init (beq_iff_eq.mp M.fn) (codeAny_mono (F.run _ X.stack _ _ ⟨Value.ref (s1.heap.objs.size + 1) :: us, []⟩ (Value.ref (s1.heap.objs.size + 1) :: us) _ _ (WE W σ) (hr.make C us []) (J.env0.make C us []) bnd rel ask) ?_))
  rintro (er | fl) s' out
  · exact land pins σ H1 _ _ _ er s' J out
  · cases fl with
    | next => exact out.elim
    | brk => exact out.elim
    | cont => exact out.elim
    | ret u =>
      obtain ⟨v, H', J', rv, rfl, qq⟩ := J.after out
      exact ⟨rv, ⟨V.ref (s1.heap.objs.size + 1), H', J', rfl, qq⟩⟩
/-- isinstance(e, c), e the error that the suite holds, with a dict -/
def rIsS (K : PySem.W.Frag) (C a : Addr) (cls : Value) (d : Option Addr) : List V → Hp → VK → Prop := fun xs H Q => ∃ (c : V) (u : Value) (b : Bool) (dd : Addr) (fs : List (Str × V)), xs = [.ref a, c] ∧ cls = .ref C ∧ ClsV c u ∧ d = some dd ∧ H dd = some (.xd fs) ∧ PySem.W.kitOne K (.ref C) u = some b ∧ Q (.bl b) H
theorem call_isS {X : Cx} {a C : Addr} {oe : Obj} {cls : Value} {d : Option Addr} {pn : List (Addr × Obj)} (ec : ExcC X.K C) (hz : Zc cls d oe) (hf : ∃ vs, oe.data = .fields vs) : CallR (X.suite a ((a, oe) :: pn)) (.builtin "isinstance") (rIsS X.K C a cls d) := by
  intro pins s σ H xs us Q I r h
  obtain ⟨c, u, b, dd, fs, rfl, hcl, cv, rfl, ed, kit, q⟩ := h
  subst hcl
  obtain ⟨u1, u2, rfl, r1, r2⟩ := vals2 r
  cases r1
  obtain rfl := cv.eq r2
  have hob : PySem.W.clsIn X.K C ≠ none := by
    obtain ⟨cd, hc, _⟩ := PySem.W.any_some ec.hd
    rw [hc]
    simp
  obtain ⟨at_, _⟩ := I.pin (a, oe) (List.mem_append_left _ List.mem_cons_self)
  obtain ⟨vs, hd⟩ := hf
  have ox : ObjOk X.prog X.w H s.heap dd (.xd fs) := I.hok dd _ ed
  obtain ⟨mA, hns, _⟩ := ox
  obtain ⟨od, ho, _⟩ := lookIn_ns hns
  have inst : PySem.W.InstAt s.heap a oe C (some od) := ⟨at_, hz.1, by unfold PySem.W.notCls; rw [hd] <;> rfl, by rw [hz.2]; exact ho⟩
  exact PySem.W.kia_one (kitxV (od := some od) ec hob) I.kIn inst kit (fun z => nomatch z) fun tk => ⟨.bl b, H, I.tok tk, rfl, q⟩
end Tk
set_option Elab.async false
set_option maxRecDepth 100000
set_option maxHeartbeats 4000000
/-! math.lcm. -/
namespace Tk
open PySem PySem.Spec PyProof.Rows L2
def rLcm : List V → Hp → VK → Prop := fun vs H Q => ∃ a b : Int, vs = [.int a, .int b] ∧ a.natAbs < 2 ^ 64 ∧ b.natAbs < 2 ^ 64 ∧ Q (.int ((Nat.lcm a.natAbs b.natAbs : Nat) : Int)) H
theorem cr_lcm {X : Cx} : CallR X (.builtin "math.lcm") rLcm := by
  intro pins s σ H vs us Q I r h
  obtain ⟨a, b, rfl, ha, hb, q⟩ := h
  obtain ⟨t, u, rfl⟩ := Vals.int2 r
  exact PySem.W.mc_lcm ha hb fun _ => ⟨.int _, H, I.tok _, ⟨_, rfl⟩, q⟩
/-- sum of a tuple of whole numbers, in the heap -/
theorem sum_rawT {pr : Program} {wo : World} {Ar : Around} {Er : Value → Shared → Prop} {st : Shared} {tp : Addr} {us : List Value} {ks : List Int} {R : Value → Shared → Prop}
    (calm : Ar.handled = none) (tup : st.heap.IsTuple tp us.toArray) (whl : IntsAre us ks)
    (fin : ∀ g n u, (∀ c o, st.heap.get? c = some o → g.get? c = some o) → R (.int ks.sum u) { st with heap := g, toks := n }) :
    wpAny (model pr wo) Ar (call (.builtin "sum") [.ref tp]) R Er st := by
  rcases whl.allInts.items with ⟨zs, ez⟩
  have sums : numsOf (intItems zs).toList = ks := ez ▸ whl.numsOf
  rw [ez] at tup
  have old : tp < st.heap.objs.size := tup.elim fun _ z => Heap.lt_size z.1
  have still : (st.heap.push { cls := .type "tuple_iterator", data := .fields #[.ref tp, .int 0 0] }).IsTuple tp (intItems zs) :=
    tup.elim fun o z => ⟨o, Heap.get?_push_of_some _ z.1, z.2⟩
  have walk := Walks.tuple (prog := pr) (w := wo) (A := Ar.in1) calm _ tp (Nat.ne_of_lt old) (intItems zs)
  refine call_sum_walkG (wpAny_pyIter_tuple tup ⟨_, _, _, _, _, _, numAt zs, rfl, walk, ⟨⟨_, Heap.get?_push_size _ rfl, rfl, rfl⟩, still⟩, ?_, (fun _ _ => intItems_at), ?_⟩)
  · intro c hc
    rw [Heap.size_push]
    rcases List.mem_cons.mp hc with z | z
    · exact z ▸ Nat.lt_succ_self _
    · exact List.mem_singleton.mp z ▸ Nat.lt_succ_of_lt old
  · intro g n u kept
    have whole : preSum (numAt zs) (intItems zs).size = ks.sum := by
      rw [← sums, nums_intItems, preSum_eq, List.take_of_length_le]
      simp [intItems]
    rw [whole]
    refine fin g n u fun c o z => kept c o (fun m => ?_) (Heap.get?_push_of_some _ z)
    have := Heap.lt_size z
    rw [List.mem_singleton.mp m] at this
    exact Nat.lt_irrefl _ this
/-- sum(x), x a list or a tuple of whole numbers -/
def rSumE (K : PySem.W.Frag) : List V → Hp → VK → Prop := fun vs H Q => ∃ (a : Addr) (ns : List Int), vs = [V.ref a] ∧ SqE K H a (ns.map V.int) ∧ Q (.int ns.sum) H
theorem cr_sumE {X : Cx} (hc : X.calm = true) : CallR X (.builtin "sum") (rSumE X.K) := by
  intro pins s σ H vs us Q I r h
  obtain ⟨a, ns, rfl, hs, q⟩ := h
  rcases hs with hs | hs
  · exact cr_sum hc pins s σ H _ us Q I r ⟨a, ns, rfl, hs, q⟩
  · obtain ⟨its, rv, hl, _⟩ := I.tuple hs
    rw [Vals.ref1 r]
    exact sum_rawT (I.ok.hd hc) (show s.heap.IsTuple a its.toArray from hl) rv.ints fun h' tk t' hk => ⟨.int _, H, I.kept hk, ⟨_, rfl⟩, q⟩
end Tk
set_option Elab.async false
set_option maxRecDepth 100000
set_option maxHeartbeats 4000000
/-! Values as data, a def's slots as data, and what an expression makes of them. -/
namespace Pl
open PySem PySem.Spec PyProof.Rows L2 Tk

/-- data: what stands for good (wri: a list that was there ahead of the law; ty, cls: a built-in class, an own one); an object of the class number c with the values of its attributes -/
inductive D where
  | non | bl (b : Bool) | int (i : Int) | str (x : Str)
  | lst (l : List D) | tup (l : List D) | wri (l : List D) | obj (c : Nat) (l : List D)
  | ty (n : String) | cls (c : Nat)
/-- a thing that may still change: a list, an object in the making -/
inductive MO where
  | lst (l : List D) | ins (c : Nat) (fs : List (Str × D))
/-- what a slot holds -/
inductive SV where
  | dat (d : D) | own (m : MO)
/-- what an expression gives: data, a new thing, the thing of slot i -/
inductive RV where
  | dat (d : D) | own (m : MO) | bor (i : Nat)
abbrev Sl := List (Option SV)
/-- where the classes stand; the names of their attributes -/
structure Cl where
  adr : Nat → Addr
  att : Nat → List Str
mutual
inductive Rep (K : PySem.W.Frag) (C : Cl) (F : Hp) : V → D → Prop
  | non : Rep K C F .non .non
  | bl (b : Bool) : Rep K C F (.bl b) (.bl b)
  | int (i : Int) : Rep K C F (.int i) (.int i)
  | str (x : Str) : Rep K C F (.str x) (.str x)
  | ty (n : String) : Rep K C F (.ty n) (.ty n)
  | cls (c : Nat) : Rep K C F (.ref (C.adr c)) (.cls c)
  | lst {p : Addr} {xs : List V} {ds : List D} : F p = some (.lst xs) → Reps K C F xs ds → Rep K C F (.ref p) (.lst ds)
  | wri {p : Addr} {xs : List V} {ds : List D} : SqL K F p xs → Reps K C F xs ds → Rep K C F (.ref p) (.wri ds)
  | tup {p : Addr} {xs : List V} {ds : List D} : F p = some (.tup xs) → Reps K C F xs ds → Rep K C F (.ref p) (.tup ds)
  | obj {p dx : Addr} {fs : List (Str × V)} {ds : List D} {c : Nat} : F p = some (.ins (C.adr c) dx fs) → fs.map (·.1) = C.att c → Reps K C F (fs.map (·.2)) ds → Rep K C F (.ref p) (.obj c ds)
inductive Reps (K : PySem.W.Frag) (C : Cl) (F : Hp) : List V → List D → Prop
  | nil : Reps K C F [] []
  | cons {v : V} {vs : List V} {d : D} {ds : List D} : Rep K C F v d → Reps K C F vs ds → Reps K C F (v :: vs) (d :: ds)
end
theorem Same.tup {K : PySem.W.Frag} {H H' : Hp} {a : Addr} {xs : List V} (e : Same H H') (h : SqT K H a xs) : SqT K H' a xs := by
  rcases h with (h | ⟨o, h⟩) | h
  · exact .inl (.inl (e _ _ h))
  · exact .inl (.inr ⟨o, e _ _ h⟩)
  · exact .inr h
section
variable {K : PySem.W.Frag} {C : Cl} {F F' H H' : Hp}
mutual
theorem Rep.mono (s : Same F F') : ∀ (d : D) (v : V), Rep K C F v d → Rep K C F' v d
  | .non, _, h => by cases h; exact .non
  | .bl b, _, h => by cases h; exact .bl b
  | .int i, _, h => by cases h; exact .int i
  | .str x, _, h => by cases h; exact .str x
  | .ty n, _, h => by cases h; exact .ty n
  | .cls c, _, h => by cases h; exact .cls c
  | .lst ds, _, h => by cases h with | lst e r => exact .lst (s _ _ e) (Reps.mono s ds _ r)
  | .wri ds, _, h => by cases h with | wri e r => exact .wri (s.seq e) (Reps.mono s ds _ r)
  | .tup ds, _, h => by cases h with | tup e r => exact .tup (s _ _ e) (Reps.mono s ds _ r)
  | .obj c ds, _, h => by cases h with | obj e n r => exact .obj (s _ _ e) n (Reps.mono s ds _ r)
theorem Reps.mono (s : Same F F') : ∀ (ds : List D) (vs : List V), Reps K C F vs ds → Reps K C F' vs ds
  | [], _, h => by cases h; exact .nil
  | d :: ds, _, h => by cases h with | cons x r => exact .cons (Rep.mono s d _ x) (Reps.mono s ds _ r)
end
theorem Rep.to {d : D} {v : V} (h : Rep K C F v d) (s : Same F F') : Rep K C F' v d := Rep.mono s d v h
theorem Reps.to {ds : List D} {vs : List V} (h : Reps K C F vs ds) (s : Same F F') : Reps K C F' vs ds := Reps.mono s ds vs h
theorem Reps.length : ∀ {vs : List V} {ds : List D}, Reps K C F vs ds → vs.length = ds.length
  | _, _, .nil => rfl
  | _, _, .cons _ r => congrArg Nat.succ r.length
theorem Reps.snoc : ∀ {vs : List V} {ds : List D} {v : V} {d : D}, Reps K C F vs ds → Rep K C F v d → Reps K C F (vs ++ [v]) (ds ++ [d])
  | _, _, _, _, .nil, x => .cons x .nil
  | _, _, _, _, .cons y r, x => .cons y (r.snoc x)
theorem Reps.append : ∀ {vs us : List V} {ds es : List D}, Reps K C F vs ds → Reps K C F us es → Reps K C F (vs ++ us) (ds ++ es)
  | _, _, _, _, .nil, x => x
  | _, _, _, _, .cons y r, x => .cons y (r.append x)
theorem Reps.get : ∀ {vs : List V} {ds : List D} {i : Nat} {v : V}, Reps K C F vs ds → vs[i]? = some v → ∃ d, ds[i]? = some d ∧ Rep K C F v d
  | _, _, _, _, .nil, e => by simp at e
  | _, _, 0, _, .cons x _, e => by simp at e; subst e; exact ⟨_, rfl, x⟩
  | _, _, i + 1, _, .cons _ r, e => by
    obtain ⟨d, h1, h2⟩ := r.get (i := i) (by simpa using e)
    exact ⟨d, by simpa using h1, h2⟩
theorem Reps.at : ∀ {vs : List V} {ds : List D} {i : Nat} {d : D}, Reps K C F vs ds → ds[i]? = some d → ∃ v, vs[i]? = some v ∧ Rep K C F v d
  | _, _, _, _, .nil, e => by simp at e
  | _, _, 0, _, .cons x _, e => by simp at e; subst e; exact ⟨_, rfl, x⟩
  | _, _, i + 1, _, .cons _ r, e => by
    obtain ⟨d, h1, h2⟩ := r.at (i := i) (by simpa using e)
    exact ⟨d, by simpa using h1, h2⟩
theorem Reps.take : ∀ {vs : List V} {ds : List D} (n : Nat), Reps K C F vs ds → Reps K C F (vs.take n) (ds.take n)
  | _, _, 0, _ => .nil
  | _, _, _ + 1, .nil => .nil
  | _, _, n + 1, .cons x r => .cons x (r.take n)
theorem Reps.drop : ∀ {vs : List V} {ds : List D} (n : Nat), Reps K C F vs ds → Reps K C F (vs.drop n) (ds.drop n)
  | _, _, 0, r => r
  | _, _, _ + 1, .nil => .nil
  | _, _, n + 1, .cons _ r => r.drop n
theorem Reps.set : ∀ {vs : List V} {ds : List D} (n : Nat) {v : V} {d : D}, Reps K C F vs ds → Rep K C F v d → Reps K C F (vs.set n v) (ds.set n d)
  | _, _, _, _, _, .nil, _ => .nil
  | _, _, 0, _, _, .cons _ r, x => .cons x r
  | _, _, n + 1, _, _, .cons y r, x => .cons y (r.set n x)
/-- what stands at a is the thing m, its parts data -/
def RepM (K : PySem.W.Frag) (C : Cl) (F H : Hp) (a : Addr) : MO → Prop
  | .lst l => ∃ vs, H a = some (.lst vs) ∧ Reps K C F vs l
  | .ins c fs => ∃ dx vs, H a = some (.ins (C.adr c) dx vs) ∧ vs.map (·.1) = fs.map (·.1) ∧ Reps K C F (vs.map (·.2)) (fs.map (·.2))
theorem RepM.there {a : Addr} {m : MO} (h : RepM K C F H a m) : ∃ o, H a = some o := by
  cases m with
  | lst l => obtain ⟨vs, e, _⟩ := h; exact ⟨_, e⟩
  | ins c fs => obtain ⟨dx, vs, e, _⟩ := h; exact ⟨_, e⟩
theorem RepM.to {a : Addr} {m : MO} (h : RepM K C F H a m) (s : Same F F') (e : H' a = H a) : RepM K C F' H' a m := by
  cases m with
  | lst l => obtain ⟨vs, q, r⟩ := h; exact ⟨vs, e.trans q, r.to s⟩
  | ins c fs => obtain ⟨dx, vs, q, n, r⟩ := h; exact ⟨dx, vs, e.trans q, n, r.to s⟩
end

/-- a slot's thing that may change, and where it stands -/
def OwnA (ρ : Sl) (σ : L2.St) (a : Addr) : Prop := ∃ (i : Nat) (m : MO), ρ[i]? = some (some (.own m)) ∧ σ[i]? = some (some (.ref a))
/-- the borrowed things: where the slots below np had them at the entry -/
structure Bw where
  B : Nat → Option Addr
  np : Nat
def noB : Bw := ⟨fun _ => none, 0⟩
structure RepSt (K : PySem.W.Frag) (C : Cl) (B : Bw) (ρ : Sl) (F : Hp) (σ : L2.St) (H : Hp) : Prop where
  len : σ.length = ρ.length
  sub : Same F H
  dat : ∀ (i : Nat) (d : D), ρ[i]? = some (some (.dat d)) → ∃ v, σ[i]? = some (some v) ∧ Rep K C F v d
  own : ∀ (i : Nat) (m : MO), ρ[i]? = some (some (.own m)) → ∃ a, σ[i]? = some (some (.ref a)) ∧ F a = none ∧ RepM K C F H a m
  sep : ∀ (i j : Nat) (a : Addr) (m m' : MO), ρ[i]? = some (some (.own m)) → ρ[j]? = some (some (.own m')) → σ[i]? = some (some (.ref a)) → σ[j]? = some (some (.ref a)) → i = j
  fix : ∀ (i : Nat) (m : MO), i < B.np → ρ[i]? = some (some (.own m)) → ∃ a, B.B i = some a ∧ σ[i]? = some (some (.ref a))
/-- from the start (what may change: S; the data's heap F0, the heap H0) here -/
structure Post (K : PySem.W.Frag) (C : Cl) (B : Bw) (S : Addr → Prop) (F0 H0 : Hp) (ρ : Sl) (σ : L2.St) (F H : Hp) : Prop where
  mono : Same F0 F
  frame : ∀ b o, H0 b = some o → ¬ S b → H b = some o
  new : ∀ b o, F b = some o → F0 b = some o ∨ H0 b = none ∨ S b
  st : RepSt K C B ρ F σ H
  low : ∀ a, OwnA ρ σ a → S a ∨ H0 a = none
section
variable {K : PySem.W.Frag} {C : Cl} {B : Bw} {S : Addr → Prop} {F0 H0 F1 H1 F2 H2 F H : Hp} {ρ ρ1 ρ2 : Sl} {σ σ1 σ2 : L2.St}
theorem Post.start (h : RepSt K C B ρ F σ H) : Post K C B (OwnA ρ σ) F H ρ σ F H :=
  ⟨Same.refl _, fun _ _ e _ => e, fun _ _ e => .inl e, h, fun _ z => .inl z⟩
theorem Post.there (p : Post K C B S F0 H0 ρ1 σ1 F1 H1) {b : Addr} (h : H1 b = none) : S b ∨ H0 b = none := by
  by_cases s : S b
  · exact .inl s
  · cases e : H0 b with
    | none => exact .inr rfl
    | some o =>
      rw [p.frame b o e s] at h
      cases h
theorem Post.trans (p : Post K C B S F0 H0 ρ1 σ1 F1 H1) {B' : Bw} (q : Post K C B' (OwnA ρ1 σ1) F1 H1 ρ2 σ2 F2 H2) : Post K C B' S F0 H0 ρ2 σ2 F2 H2 where
  mono := p.mono.trans q.mono
  frame := fun b o e s => q.frame b o (p.frame b o e s) fun z => (p.low b z).elim s fun n => by rw [n] at e; cases e
  new := fun b o e => by
    rcases q.new b o e with h | h | h
    · exact p.new b o h
    · exact (p.there h).symm.imp_right id |> .inr
    · exact .inr (p.low b h).symm
  st := q.st
  low := fun a z => by
    rcases q.low a z with h | h
    · exact p.low a h
    · exact p.there h

/-- v is what r tells; a new thing is new since the start -/
def RepRV (K : PySem.W.Frag) (C : Cl) (S : Addr → Prop) (H0 : Hp) (ρ : Sl) (F : Hp) (σ : L2.St) (H : Hp) (v : V) : RV → Prop
  | .dat d => Rep K C F v d
  | .own m => ∃ a, v = .ref a ∧ F a = none ∧ RepM K C F H a m ∧ ¬ OwnA ρ σ a ∧ (S a ∨ H0 a = none)
  | .bor i => σ[i]? = some (some v)
theorem RepRV.carry {v : V} {r : RV} (h : RepRV K C S H0 ρ1 F1 σ H1 v r) (q : Post K C B (OwnA ρ1 σ) F1 H1 ρ2 σ F2 H2) : RepRV K C S H0 ρ2 F2 σ H2 v r := by
  cases r with
  | dat d => exact Rep.to h q.mono
  | bor i => exact h
  | own m =>
    obtain ⟨a, e, n, rm, no, s⟩ := h
    obtain ⟨o, ho⟩ := rm.there
    refine ⟨a, e, ?_, rm.to q.mono ((q.frame a o ho no).trans ho.symm), ?_, s⟩
    · cases z : F2 a with
      | none => rfl
      | some u =>
        rcases q.new a u z with h | h | h
        · rw [n] at h; cases h
        · rw [ho] at h; cases h
        · exact (no h).elim
    · intro z
      rcases q.low a z with h | h
      · exact no h
      · rw [ho] at h; cases h
/-- as seen from an earlier start -/
theorem RepRV.since {v : V} {r : RV} (p : Post K C B S F0 H0 ρ1 σ1 F1 H1) (h : RepRV K C (OwnA ρ1 σ1) H1 ρ2 F2 σ2 H2 v r) : RepRV K C S H0 ρ2 F2 σ2 H2 v r := by
  cases r with
  | dat d => exact h
  | bor i => exact h
  | own m =>
    obtain ⟨a, e, n, rm, no, s⟩ := h
    refine ⟨a, e, n, rm, no, ?_⟩
    rcases s with s | s
    · exact p.low a s
    · exact p.there s
end

/-! ### what an expression makes -/
inductive Res (α : Type) where
  | ok (a : α) (ρ : Sl)
  | exc (c : Nat) (fs : List (Str × D)) (ρ : Sl)
abbrev Ef (α : Type) := Sl → Option (Res α)
abbrev DE := Ef RV
def bindE {α β : Type} (f : Ef α) (k : α → Ef β) : Ef β := fun ρ => match f ρ with
  | some (.ok a ρ') => k a ρ'
  | some (.exc c fs ρ') => some (.exc c fs ρ')
  | none => none
def retE {α : Type} (a : α) : Ef α := fun ρ => some (.ok a ρ)
/-- an error's own attributes -/
def ExcAt (K : PySem.W.Frag) (C : Cl) (F H : Hp) : Option Addr → List (Str × D) → Prop
  | none, fs => fs = []
  | some d, fs => F d = none ∧ ∃ vs, H d = some (.xd vs) ∧ vs.map (·.1) = fs.map (·.1) ∧ Reps K C F (vs.map (·.2)) (fs.map (·.2))
/-- kinds of what is made: α by the reading, β in the machine -/
structure Kd (K : PySem.W.Frag) (C : Cl) (α β : Type) where
  rep : (Addr → Prop) → Hp → Sl → Hp → L2.St → Hp → β → α → Prop
  since : ∀ {B : Bw} {S : Addr → Prop} {F0 H0 F1 H1 F2 H2 : Hp} {ρ1 ρ2 : Sl} {σ1 σ2 : L2.St} {v : β} {a : α}, Post K C B S F0 H0 ρ1 σ1 F1 H1 → rep (OwnA ρ1 σ1) H1 ρ2 F2 σ2 H2 v a → rep S H0 ρ2 F2 σ2 H2 v a
def kR (K : PySem.W.Frag) (C : Cl) : Kd K C RV V := ⟨RepRV K C, fun p h => RepRV.since p h⟩
def kB (K : PySem.W.Frag) (C : Cl) : Kd K C Bool Bool := ⟨fun _ _ _ _ _ _ v a => v = a, fun _ h => h⟩
inductive RepRVs (K : PySem.W.Frag) (C : Cl) (S : Addr → Prop) (H0 : Hp) (ρ : Sl) (F : Hp) (σ : L2.St) (H : Hp) : List V → List RV → Prop
  | nil : RepRVs K C S H0 ρ F σ H [] []
  | cons {v : V} {vs : List V} {r : RV} {rs : List RV} : RepRV K C S H0 ρ F σ H v r → RepRVs K C S H0 ρ F σ H vs rs → (∀ m, r = .own m → ∀ (k : Nat) (m' : MO), rs[k]? = some (.own m') → vs[k]? ≠ some v) → RepRVs K C S H0 ρ F σ H (v :: vs) (r :: rs)
theorem RepRVs.since {K : PySem.W.Frag} {C : Cl} {B : Bw} {S : Addr → Prop} {F0 H0 F1 H1 F2 H2 : Hp} {ρ1 ρ2 : Sl} {σ1 σ2 : L2.St} (p : Post K C B S F0 H0 ρ1 σ1 F1 H1) : ∀ {vs : List V} {rs : List RV}, RepRVs K C (OwnA ρ1 σ1) H1 ρ2 F2 σ2 H2 vs rs → RepRVs K C S H0 ρ2 F2 σ2 H2 vs rs
  | _, _, .nil => .nil
  | _, _, .cons x r n => .cons (RepRV.since p x) (RepRVs.since p r) n
theorem RepRVs.at {K : PySem.W.Frag} {C : Cl} {S : Addr → Prop} {H0 F H : Hp} {ρ : Sl} {σ : L2.St} : ∀ {vs : List V} {rs : List RV} {k : Nat} {r : RV}, RepRVs K C S H0 ρ F σ H vs rs → rs[k]? = some r → ∃ v, vs[k]? = some v ∧ RepRV K C S H0 ρ F σ H v r
  | _, _, _, _, .nil, e => by simp at e
  | _, _, 0, _, .cons x _ _, e => by simp at e; subst e; exact ⟨_, rfl, x⟩
  | _, _, k + 1, _, .cons _ t _, e => by
    obtain ⟨v, h1, h2⟩ := t.at (k := k) (by simpa using e)
    exact ⟨v, by simpa using h1, h2⟩
theorem RepRVs.length {K : PySem.W.Frag} {C : Cl} {S : Addr → Prop} {H0 F H : Hp} {ρ : Sl} {σ : L2.St} : ∀ {vs : List V} {rs : List RV}, RepRVs K C S H0 ρ F σ H vs rs → vs.length = rs.length
  | _, _, .nil => rfl
  | _, _, .cons _ t _ => congrArg Nat.succ t.length
def kL (K : PySem.W.Frag) (C : Cl) : Kd K C (List RV) (List V) := ⟨RepRVs K C, fun p h => RepRVs.since p h⟩
/-- what is still to be shown, o being what is made -/
def GoalA {K : PySem.W.Frag} {C : Cl} {α β : Type} (k : Kd K C α β) (B : Bw) (W : WX) (S : Addr → Prop) (F0 H0 : Hp) (σ : L2.St) (Q : β → Hp → Prop) : Option (Res α) → Prop
  | some (.ok r ρ) => ∀ v F H, Post K C B S F0 H0 ρ σ F H → k.rep S H0 ρ F σ H v r → Q v H
  | some (.exc c fs ρ) => ∀ dd F H, Post K C B S F0 H0 ρ σ F H → ExcAt K C F H dd fs → W (.ref (C.adr c)) dd σ H
  | none => False
abbrev Goal (K : PySem.W.Frag) (C : Cl) (B : Bw) (W : WX) (S : Addr → Prop) (F0 H0 : Hp) (σ : L2.St) (Q : VK) : Option (Res RV) → Prop := GoalA (kR K C) B W S F0 H0 σ Q
/-- the reading of what makes f -/
def tG {K : PySem.W.Frag} {C : Cl} {α β : Type} (k : Kd K C α β) (B : Bw) (W : WX) (f : Ef α) (σ : L2.St) (H : Hp) (Q : β → Hp → Prop) : Prop := ∃ ρ F, RepSt K C B ρ F σ H ∧ GoalA k B W (OwnA ρ σ) F H σ Q (f ρ)
abbrev tD (K : PySem.W.Frag) (C : Cl) (B : Bw) (W : WX) (f : DE) : TE := tG (kR K C) B W f
abbrev tT (K : PySem.W.Frag) (C : Cl) (B : Bw) (W : WX) (f : Ef Bool) : TT := tG (kB K C) B W f
abbrev tL (K : PySem.W.Frag) (C : Cl) (B : Bw) (W : WX) (f : Ef (List RV)) : TA := tG (kL K C) B W f
abbrev PD (X : Cx) (C : Cl) (B : Bw) (W : WX) (e : Expr) (f : DE) : Prop := PE X e (tD X.K C B W f)
abbrev PDT (X : Cx) (C : Cl) (B : Bw) (W : WX) (e : Expr) (f : Ef Bool) : Prop := PT X e (tT X.K C B W f)
abbrev PDW (X : Cx) (C : Cl) (B : Bw) (W : WX) (e : Expr) (f : Ef Bool) : Prop := PW X e (tT X.K C B W f)
abbrev PDA (X : Cx) (C : Cl) (B : Bw) (W : WX) (es : List Expr) (f : Ef (List RV)) : Prop := PA X es (tL X.K C B W f)
theorem PE.conv {X : Cx} {e : Expr} {t t' : TE} (h : PE X e t) (c : ∀ σ H Q, t' σ H Q → t σ H Q) : PE X e t' := ⟨fun pins s σ H Q I q => h.run pins s σ H Q I (c σ H Q q)⟩
theorem PT.conv {X : Cx} {e : Expr} {t t' : TT} (h : PT X e t) (c : ∀ σ H Q, t' σ H Q → t σ H Q) : PT X e t' := ⟨fun pins s σ H Q I q => h.run pins s σ H Q I (c σ H Q q)⟩
theorem PW.conv {X : Cx} {e : Expr} {t t' : TT} (h : PW X e t) (c : ∀ σ H Q, t' σ H Q → t σ H Q) : PW X e t' := ⟨fun w pins s σ H Q I q => h.run w pins s σ H Q I (c σ H Q q)⟩
theorem PA.conv {X : Cx} {es : List Expr} {t t' : TA} (h : PA X es t) (c : ∀ σ H Q, t' σ H Q → t σ H Q) : PA X es t' := ⟨fun pos pins s σ H Q I q => h.run pos pins s σ H Q I (c σ H Q q)⟩
section
variable {K : PySem.W.Frag} {C : Cl} {B : Bw} {W : WX} {S : Addr → Prop} {F0 H0 F H : Hp} {ρ : Sl} {σ : L2.St} {Q : VK}
/-- one step, then the rest -/
theorem tG_bindR {α β γ δ : Type} {k1 : Kd K C α β} {k2 : Kd K C γ δ} {f : Ef α} {k : α → Ef γ} {Qa : β → Hp → Prop} {Q : δ → Hp → Prop} (p : Post K C B S F0 H0 ρ σ F H) (g : GoalA k2 B W S F0 H0 σ Q (bindE f k ρ))
    (h : ∀ r1 ρ1 v F1 H1, GoalA k2 B W S F0 H0 σ Q (k r1 ρ1) → Post K C B S F0 H0 ρ1 σ F1 H1 → Post K C B (OwnA ρ σ) F H ρ1 σ F1 H1 → k1.rep S H0 ρ1 F1 σ H1 v r1 → k1.rep (OwnA ρ σ) H ρ1 F1 σ H1 v r1 → Qa v H1) : tG k1 B W f σ H Qa := by
  refine ⟨ρ, F, p.st, ?_⟩
  unfold bindE at g
  cases e : f ρ with
  | none => rw [e] at g; exact g
  | some r =>
    rw [e] at g
    cases r with
    | ok r1 ρ1 => exact fun v F1 H1 q rv => h r1 ρ1 v F1 H1 g (p.trans q) q (k1.since p rv) rv
    | exc c fs ρ1 => exact fun dd F1 H1 q ex => g dd F1 H1 (p.trans q) ex
theorem tG_bind {α β γ δ : Type} {k1 : Kd K C α β} {k2 : Kd K C γ δ} {f : Ef α} {k : α → Ef γ} {Qa : β → Hp → Prop} {Q : δ → Hp → Prop} (p : Post K C B S F0 H0 ρ σ F H) (g : GoalA k2 B W S F0 H0 σ Q (bindE f k ρ))
    (h : ∀ r1 ρ1 v F1 H1, GoalA k2 B W S F0 H0 σ Q (k r1 ρ1) → Post K C B S F0 H0 ρ1 σ F1 H1 → Post K C B (OwnA ρ σ) F H ρ1 σ F1 H1 → k1.rep S H0 ρ1 F1 σ H1 v r1 → Qa v H1) : tG k1 B W f σ H Qa :=
  tG_bindR p g fun r1 ρ1 v F1 H1 g1 p1 s1 q1 _ => h r1 ρ1 v F1 H1 g1 p1 s1 q1
/-- the last step -/
theorem tG_last {α β : Type} {k1 : Kd K C α β} {f : Ef α} {Q : β → Hp → Prop} (p : Post K C B S F0 H0 ρ σ F H) (g : GoalA k1 B W S F0 H0 σ Q (f ρ)) : tG k1 B W f σ H Q := by
  refine ⟨ρ, F, p.st, ?_⟩
  cases e : f ρ with
  | none => rw [e] at g; exact g
  | some r =>
    rw [e] at g
    cases r with
    | ok r1 ρ1 => exact fun v F1 H1 q rv => g v F1 H1 (p.trans q) (k1.since p rv)
    | exc c fs ρ1 => exact fun dd F1 H1 q ex => g dd F1 H1 (p.trans q) ex
/-- data that is there -/
theorem Goal.here {d : D} {v : V} (g : Goal K C B W S F0 H0 σ Q (some (.ok (.dat d) ρ))) (p : Post K C B S F0 H0 ρ σ F H) (r : Rep K C F v d) : Q v H := g v F H p r
/-- a new object that never changes -/
theorem Post.newF (p : Post K C B S F0 H0 ρ σ F H) {a : Addr} (n : H a = none) (o : HO) : Post K C B S F0 H0 ρ σ (upd F a o) (upd H a o) := by
  have nF : F a = none := p.st.sub.free n
  have sF : Same F (upd F a o) := fun b u e => by rw [upd_ne (ne_of_none e nF)]; exact e
  have sH : Same H (upd H a o) := fun b u e => by rw [upd_ne (ne_of_none e n)]; exact e
  refine ⟨p.mono.trans sF, fun b u e s => sH b u (p.frame b u e s), fun b u e => ?_, ⟨p.st.len, fun b u e => ?_, fun i d e => ?_, fun i m e => ?_, p.st.sep, p.st.fix⟩, p.low⟩
  · by_cases h : b = a
    · subst h
      exact .inr (p.there n).symm
    · rw [upd_ne h] at e
      exact p.new b u e
  · by_cases h : b = a
    · subst h
      rw [upd_same] at e ⊢
      exact e
    · rw [upd_ne h] at e ⊢
      exact p.st.sub b u e
  · obtain ⟨v, e1, r⟩ := p.st.dat i d e
    exact ⟨v, e1, r.to sF⟩
  · obtain ⟨b, e1, e2, r⟩ := p.st.own i m e
    obtain ⟨u, hu⟩ := r.there
    have ne : b ≠ a := ne_of_none hu n
    exact ⟨b, e1, by rw [upd_ne ne]; exact e2, r.to sF (upd_ne ne)⟩
/-- a new object that may change -/
theorem Post.newO (p : Post K C B S F0 H0 ρ σ F H) {a : Addr} (n : H a = none) (o : HO) : Post K C B S F0 H0 ρ σ F (upd H a o) := by
  have sH : Same H (upd H a o) := fun b u e => by rw [upd_ne (ne_of_none e n)]; exact e
  refine ⟨p.mono, fun b u e s => sH b u (p.frame b u e s), p.new, ⟨p.st.len, p.st.sub.trans sH, p.st.dat, fun i m e => ?_, p.st.sep, p.st.fix⟩, p.low⟩
  obtain ⟨b, e1, e2, r⟩ := p.st.own i m e
  obtain ⟨u, hu⟩ := r.there
  exact ⟨b, e1, e2, r.to (Same.refl _) (upd_ne (ne_of_none hu n))⟩
theorem Post.notOwn (p : Post K C B S F0 H0 ρ σ F H) {a : Addr} (n : H a = none) : ¬ OwnA ρ σ a := by
  rintro ⟨i, m, e, s⟩
  obtain ⟨b, e1, _, r⟩ := p.st.own i m e
  rw [s] at e1
  cases e1
  obtain ⟨u, hu⟩ := r.there
  rw [hu] at n
  cases n
/-- a new list -/
theorem Goal.newL {l : List D} {vs : List V} (g : Goal K C B W S F0 H0 σ Q (some (.ok (.own (.lst l)) ρ))) (p : Post K C B S F0 H0 ρ σ F H) {a : Addr} (n : H a = none) (r : Reps K C F vs l) : Q (.ref a) (upd H a (.lst vs)) :=
  g _ F _ (p.newO n _) ⟨a, rfl, p.st.sub.free n, ⟨vs, upd_same, r⟩, p.notOwn n, p.there n⟩
/-- a new tuple -/
theorem Goal.newT {l : List D} {vs : List V} (g : Goal K C B W S F0 H0 σ Q (some (.ok (.dat (.tup l)) ρ))) (p : Post K C B S F0 H0 ρ σ F H) {a : Addr} (n : H a = none) (r : Reps K C F vs l) : Q (.ref a) (upd H a (.tup vs)) :=
  g _ _ _ (p.newF n _) (.tup upd_same (r.to fun b u e => by rw [upd_ne (ne_of_none e (p.st.sub.free n))]; exact e))

/-! ### reading a thing as data, for the moment -/
def MO.see : MO → Option D
  | .lst l => some (.lst l)
  | .ins _ _ => none
def SV.see : SV → Option D
  | .dat d => some d
  | .own m => m.see
def slotSee : Option (Option SV) → Option D
  | some (some sv) => sv.see
  | _ => none
def RV.see (ρ : Sl) : RV → Option D
  | .dat d => some d
  | .own m => m.see
  | .bor i => slotSee ρ[i]?
theorem slotSee_cases {o : Option (Option SV)} {d : D} (h : slotSee o = some d) : o = some (some (.dat d)) ∨ ∃ m, o = some (some (.own m)) ∧ m.see = some d := by
  match o, h with
  | some (some (.dat d')), h => cases h; exact .inl rfl
  | some (some (.own m)), h => exact .inr ⟨m, rfl, h⟩
theorem RepM.see {a : Addr} {m : MO} {d : D} (h : RepM K C F H a m) (s : Same F H) (e : m.see = some d) : Rep K C H (.ref a) d := by
  cases m with
  | lst l =>
    obtain ⟨vs, q, r⟩ := h
    cases e
    exact .lst q (r.to s)
  | ins c fs => cases e
theorem RepRV.see {v : V} {r : RV} {d : D} (h : RepRV K C S H0 ρ F σ H v r) (st : RepSt K C B ρ F σ H) (e : r.see ρ = some d) : Rep K C H v d := by
  cases r with
  | dat d' => cases e; exact Rep.to h st.sub
  | own m =>
    obtain ⟨a, rfl, n, rm, _⟩ := h
    exact rm.see st.sub e
  | bor i =>
    have h : σ[i]? = some (some v) := h
    rcases slotSee_cases e with q | ⟨m, q, em⟩
    · obtain ⟨v', e1, r⟩ := st.dat i _ q
      rw [h] at e1
      cases e1
      exact r.to st.sub
    · obtain ⟨a, e1, _, r⟩ := st.own i m q
      rw [h] at e1
      cases e1
      exact r.see st.sub em
/-- the items of a list or a tuple stand as data for good -/
def D.items : D → Option (List D)
  | .lst l => some l
  | .wri l => some l
  | .tup l => some l
  | _ => none
def RV.items (ρ : Sl) (r : RV) : Option (List D) := (r.see ρ).bind D.items
theorem RepRV.items {v : V} {r : RV} {l : List D} (h : RepRV K C S H0 ρ F σ H v r) (st : RepSt K C B ρ F σ H) (e : r.items ρ = some l) : ∃ a vs, v = .ref a ∧ (SqL K H a vs ∨ SqT K H a vs) ∧ Reps K C F vs l := by
  have dats : ∀ {v' : V} {d : D}, Rep K C F v' d → d.items = some l → ∃ a vs, v' = .ref a ∧ (SqL K H a vs ∨ SqT K H a vs) ∧ Reps K C F vs l := by
    intro v' d r q
    cases r with
    | lst e r => cases q; exact ⟨_, _, rfl, .inl (SqL.of (st.sub _ _ e)), r⟩
    | wri e r => cases q; exact ⟨_, _, rfl, .inl (st.sub.seq e), r⟩
    | tup e r => cases q; exact ⟨_, _, rfl, .inr (SqT.of (st.sub _ _ e)), r⟩
    | _ => cases q
  have things : ∀ {a : Addr} {m : MO}, RepM K C F H a m → m.see.bind D.items = some l → ∃ b vs, V.ref a = .ref b ∧ (SqL K H b vs ∨ SqT K H b vs) ∧ Reps K C F vs l := by
    intro a m r q
    cases m with
    | lst l' =>
      obtain ⟨vs, e, r⟩ := r
      cases q
      exact ⟨a, vs, rfl, .inl (SqL.of e), r⟩
    | ins c fs => cases q
  cases r with
  | dat d => exact dats h e
  | own m =>
    obtain ⟨a, rfl, n, rm, _⟩ := h
    exact things rm e
  | bor i =>
    have h : σ[i]? = some (some v) := h
    have e : (slotSee ρ[i]?).bind D.items = some l := e
    cases es : slotSee ρ[i]? with
    | none => rw [es] at e; cases e
    | some d =>
      rw [es] at e
      rcases slotSee_cases es with q | ⟨m, q, em⟩
      · obtain ⟨v', e1, r⟩ := st.dat i _ q
        rw [h] at e1
        cases e1
        exact dats r e
      · obtain ⟨a, e1, _, r⟩ := st.own i m q
        rw [h] at e1
        cases e1
        exact things r (by rw [em]; exact e)

/-! ### a thing becomes data for good -/
def MO.fix : MO → Option D
  | .lst l => some (.lst l)
  | .ins _ _ => none
def toDat (r : RV) : Ef D := fun ρ => match r with
  | .dat d => some (.ok d ρ)
  | .own m => m.fix.bind fun d => some (.ok d ρ)
  | .bor i => match ρ[i]? with
    | some (some (.dat d)) => some (.ok d ρ)
    | some (some (.own m)) => m.fix.bind fun d => some (.ok d (ρ.set i (some (.dat d))))
    | _ => none
/-- a thing of a slot becomes data -/
theorem Post.fixS (p : Post K C B S F0 H0 ρ σ F H) {i : Nat} {l : List D} {v : V} (e : ρ[i]? = some (some (.own (.lst l)))) (s : σ[i]? = some (some v)) :
    ∃ F', Post K C B S F0 H0 (ρ.set i (some (.dat (.lst l)))) σ F' H ∧ Rep K C F' v (.lst l) ∧ Same F F' := by
  obtain ⟨a, e1, nF, vs, ha, r⟩ := p.st.own i _ e
  rw [s] at e1
  cases e1
  have sF : Same F (upd F a (.lst vs)) := fun b u e => by rw [upd_ne (ne_of_none e nF)]; exact e
  have rep : Rep K C (upd F a (.lst vs)) (.ref a) (.lst l) := .lst upd_same (r.to sF)
  have iL : i < ρ.length := (List.getElem?_eq_some_iff.mp e).1
  have own_ : ∀ {j : Nat} {m : MO}, (ρ.set i (some (.dat (.lst l))))[j]? = some (some (.own m)) → j ≠ i ∧ ρ[j]? = some (some (.own m)) := by
    intro j m h
    by_cases hj : j = i
    · subst hj
      rw [List.getElem?_set_self iL] at h
      cases h
    · rw [List.getElem?_set_ne (Ne.symm hj)] at h
      exact ⟨hj, h⟩
  refine ⟨upd F a (.lst vs), ⟨p.mono.trans sF, p.frame, fun b u h => ?_, ⟨by rw [List.length_set]; exact p.st.len, fun b u h => ?_, fun j d h => ?_, fun j m h => ?_, fun j k b m m' h1 h2 => p.st.sep j k b m m' (own_ h1).2 (own_ h2).2, fun j m h1 h2 => p.st.fix j m h1 (own_ h2).2⟩, ?_⟩, rep, sF⟩
  · by_cases hb : b = a
    · subst hb
      exact .inr (p.low b ⟨i, _, e, s⟩).symm
    · rw [upd_ne hb] at h
      exact p.new b u h
  · by_cases hb : b = a
    · subst hb
      rw [upd_same] at h
      cases h
      exact ha
    · rw [upd_ne hb] at h
      exact p.st.sub b u h
  · by_cases hj : j = i
    · subst hj
      rw [List.getElem?_set_self iL] at h
      cases h
      exact ⟨_, s, rep⟩
    · rw [List.getElem?_set_ne (Ne.symm hj)] at h
      obtain ⟨v', e1, r'⟩ := p.st.dat j d h
      exact ⟨v', e1, r'.to sF⟩
  · obtain ⟨hj, h⟩ := own_ h
    obtain ⟨b, e1, n, r'⟩ := p.st.own j m h
    have ne : b ≠ a := fun z => hj (p.st.sep j i a m _ h e (z ▸ e1) s)
    exact ⟨b, e1, by rw [upd_ne ne]; exact n, r'.to sF rfl⟩
  · rintro b ⟨j, m, h1, h2⟩
    exact p.low b ⟨j, m, (own_ h1).2, h2⟩
/-- a new thing becomes data -/
theorem Post.fixN (p : Post K C B S F0 H0 ρ σ F H) {l : List D} {v : V} (h : RepRV K C S H0 ρ F σ H v (.own (.lst l))) : ∃ F', Post K C B S F0 H0 ρ σ F' H ∧ Rep K C F' v (.lst l) ∧ Same F F' := by
  obtain ⟨a, rfl, nF, ⟨vs, ha, r⟩, no, s⟩ := h
  have sF : Same F (upd F a (.lst vs)) := fun b u e => by rw [upd_ne (ne_of_none e nF)]; exact e
  refine ⟨upd F a (.lst vs), ⟨p.mono.trans sF, p.frame, fun b u h => ?_, ⟨p.st.len, fun b u h => ?_, fun j d h => ?_, fun j m h => ?_, p.st.sep, p.st.fix⟩, p.low⟩, .lst upd_same (r.to sF), sF⟩
  · by_cases hb : b = a
    · subst hb
      exact .inr s.symm
    · rw [upd_ne hb] at h
      exact p.new b u h
  · by_cases hb : b = a
    · subst hb
      rw [upd_same] at h
      cases h
      exact ha
    · rw [upd_ne hb] at h
      exact p.st.sub b u h
  · obtain ⟨v', e1, r'⟩ := p.st.dat j d h
    exact ⟨v', e1, r'.to sF⟩
  · obtain ⟨b, e1, n, r'⟩ := p.st.own j m h
    have ne : b ≠ a := fun z => no ⟨j, m, h, z ▸ e1⟩
    exact ⟨b, e1, by rw [upd_ne ne]; exact n, r'.to sF rfl⟩
theorem Post.toDat (p : Post K C B S F0 H0 ρ σ F H) {v : V} {r : RV} {d : D} {ρ' : Sl} (h : RepRV K C S H0 ρ F σ H v r) (e : toDat r ρ = some (.ok d ρ')) : ∃ F', Post K C B S F0 H0 ρ' σ F' H ∧ Rep K C F' v d ∧ Same F F' := by
  cases r with
  | dat d' =>
    cases e
    exact ⟨F, p, h, Same.refl _⟩
  | own m =>
    cases m with
    | lst l =>
      cases e
      exact p.fixN h
    | ins c fs => cases e
  | bor i =>
    have h : σ[i]? = some (some v) := h
    unfold Pl.toDat at e
    dsimp only at e
    split at e
    · rename_i d' q
      cases e
      obtain ⟨v', e1, r⟩ := p.st.dat i _ q
      rw [h] at e1
      cases e1
      exact ⟨F, p, r, Same.refl _⟩
    · rename_i m q
      cases m with
      | lst l =>
        cases e
        exact p.fixS q h
      | ins c fs => cases e
    · cases e
/-- a slot's thing is changed -/
theorem Post.write (p : Post K C B S F0 H0 ρ σ F H) {i : Nat} {m m' : MO} {a : Addr} {o : HO} (e : ρ[i]? = some (some (.own m))) (s : σ[i]? = some (some (.ref a))) (r : RepM K C F (upd H a o) a m') :
    Post K C B S F0 H0 (ρ.set i (some (.own m'))) σ F (upd H a o) := by
  have iL : i < ρ.length := (List.getElem?_eq_some_iff.mp e).1
  have own_ : ∀ {j : Nat} {k : MO}, (ρ.set i (some (.own m')))[j]? = some (some (.own k)) → ∃ k', ρ[j]? = some (some (.own k')) ∧ (j = i ∧ k = m' ∨ j ≠ i ∧ k' = k) := by
    intro j k h
    by_cases hj : j = i
    · subst hj
      rw [List.getElem?_set_self iL] at h
      cases h
      exact ⟨m, e, .inl ⟨rfl, rfl⟩⟩
    · rw [List.getElem?_set_ne (Ne.symm hj)] at h
      exact ⟨k, h, .inr ⟨hj, rfl⟩⟩
  have nF : F a = none := by
    obtain ⟨b, e1, n, _⟩ := p.st.own i m e
    rw [s] at e1
    cases e1
    exact n
  refine ⟨p.mono, fun b u h ns => ?_, p.new, ⟨by rw [List.length_set]; exact p.st.len, fun b u h => ?_, fun j d h => ?_, fun j k h => ?_, fun j k b n n' h1 h2 => ?_, fun j n h1 h2 => ?_⟩, ?_⟩
  · have ne : b ≠ a := by
      rintro rfl
      rcases p.low b ⟨i, m, e, s⟩ with z | z
      · exact ns z
      · rw [h] at z; cases z
    rw [upd_ne ne]
    exact p.frame b u h ns
  · rw [upd_ne (ne_of_none h nF)]
    exact p.st.sub b u h
  · by_cases hj : j = i
    · subst hj
      rw [List.getElem?_set_self iL] at h
      cases h
    · rw [List.getElem?_set_ne (Ne.symm hj)] at h
      exact p.st.dat j d h
  · obtain ⟨k', h', c⟩ := own_ h
    obtain ⟨b, e1, n, r'⟩ := p.st.own j k' h'
    rcases c with ⟨rfl, rfl⟩ | ⟨hj, rfl⟩
    · rw [s] at e1
      cases e1
      exact ⟨a, s, nF, r⟩
    · have ne : b ≠ a := fun z => hj (p.st.sep j i a _ _ h' e (z ▸ e1) s)
      exact ⟨b, e1, n, r'.to (Same.refl _) (upd_ne ne)⟩
  · obtain ⟨n1, g1, _⟩ := own_ h1
    obtain ⟨n2, g2, _⟩ := own_ h2
    exact p.st.sep j k b n1 n2 g1 g2
  · obtain ⟨n1, g1, _⟩ := own_ h2
    exact p.st.fix j n1 h1 g1
  · rintro b ⟨j, n, h1, h2⟩
    obtain ⟨n1, g1, _⟩ := own_ h1
    exact p.low b ⟨j, n1, g1, h2⟩
/-- a slot is forgotten -/
theorem Post.drop (p : Post K C B S F0 H0 ρ σ F H) (i : Nat) : Post K C B S F0 H0 (ρ.set i none) σ F H := by
  have old : ∀ {j : Nat} {x : SV}, (ρ.set i none)[j]? = some (some x) → ρ[j]? = some (some x) := by
    intro j x h
    by_cases hj : j = i
    · subst hj
      by_cases hl : j < ρ.length
      · rw [List.getElem?_set_self hl] at h; cases h
      · rw [List.getElem?_eq_none (by rw [List.length_set]; omega)] at h; cases h
    · rw [List.getElem?_set_ne (Ne.symm hj)] at h
      exact h
  exact ⟨p.mono, p.frame, p.new, ⟨by rw [List.length_set]; exact p.st.len, p.st.sub, fun j d h => p.st.dat j d (old h), fun j m h => p.st.own j m (old h), fun j k b m m' h1 h2 => p.st.sep j k b m m' (old h1) (old h2), fun j m h1 h2 => p.st.fix j m h1 (old h2)⟩,
    fun b ⟨j, m, h1, h2⟩ => p.low b ⟨j, m, old h1, h2⟩⟩
/-- a slot gets data -/
theorem Post.setD (p : Post K C B S F0 H0 ρ σ F H) {i : Nat} {v : V} {d : D} (r : Rep K C F v d) : Post K C B S F0 H0 (ρ.set i (some (.dat d))) (σ.set i (some v)) F H := by
  have cs : ∀ {j : Nat} {x : SV}, (ρ.set i (some (.dat d)))[j]? = some (some x) → (j = i ∧ x = .dat d ∧ j < ρ.length) ∨ (j ≠ i ∧ ρ[j]? = some (some x)) := by
    intro j x h
    by_cases hj : j = i
    · subst hj
      by_cases hl : j < ρ.length
      · rw [List.getElem?_set_self hl] at h; cases h; exact .inl ⟨rfl, rfl, hl⟩
      · rw [List.getElem?_eq_none (by rw [List.length_set]; omega)] at h; cases h
    · rw [List.getElem?_set_ne (Ne.symm hj)] at h
      exact .inr ⟨hj, h⟩
  have own_ : ∀ {j : Nat} {m : MO}, (ρ.set i (some (.dat d)))[j]? = some (some (.own m)) → j ≠ i ∧ ρ[j]? = some (some (.own m)) := by
    intro j m h
    rcases cs h with ⟨_, z, _⟩ | z
    · cases z
    · exact z
  have sg : ∀ {j : Nat}, j ≠ i → (σ.set i (some v))[j]? = σ[j]? := fun h => List.getElem?_set_ne (Ne.symm h)
  refine ⟨p.mono, p.frame, p.new, ⟨by rw [List.length_set, List.length_set]; exact p.st.len, p.st.sub, fun j d' h => ?_, fun j m h => ?_, fun j k b m m' h1 h2 h3 h4 => ?_, fun j m h1 h2 => ?_⟩, ?_⟩
  · rcases cs h with ⟨rfl, z, l⟩ | ⟨hj, h⟩
    · cases z
      exact ⟨v, List.getElem?_set_self (by rw [p.st.len]; exact l), r⟩
    · rw [sg hj]
      exact p.st.dat j d' h
  · obtain ⟨hj, h⟩ := own_ h
    rw [sg hj]
    exact p.st.own j m h
  · obtain ⟨g1, h1⟩ := own_ h1
    obtain ⟨g2, h2⟩ := own_ h2
    rw [sg g1] at h3
    rw [sg g2] at h4
    exact p.st.sep j k b m m' h1 h2 h3 h4
  · obtain ⟨g1, h2⟩ := own_ h2
    rw [sg g1]
    exact p.st.fix j m h1 h2
  · rintro b ⟨j, m, h1, h2⟩
    obtain ⟨g1, h1⟩ := own_ h1
    rw [sg g1] at h2
    exact p.low b ⟨j, m, h1, h2⟩
/-- a slot gets a new thing -/
theorem Post.setN (p : Post K C B S F0 H0 ρ σ F H) {i : Nat} {v : V} {m : MO} (hi : B.np ≤ i) (h : RepRV K C S H0 ρ F σ H v (.own m)) : Post K C B S F0 H0 (ρ.set i (some (.own m))) (σ.set i (some v)) F H := by
  obtain ⟨a, rfl, nF, rm, no, s⟩ := h
  have cs : ∀ {j : Nat} {x : SV}, (ρ.set i (some (.own m)))[j]? = some (some x) → (j = i ∧ x = .own m ∧ j < ρ.length) ∨ (j ≠ i ∧ ρ[j]? = some (some x)) := by
    intro j x h
    by_cases hj : j = i
    · subst hj
      by_cases hl : j < ρ.length
      · rw [List.getElem?_set_self hl] at h; cases h; exact .inl ⟨rfl, rfl, hl⟩
      · rw [List.getElem?_eq_none (by rw [List.length_set]; omega)] at h; cases h
    · rw [List.getElem?_set_ne (Ne.symm hj)] at h
      exact .inr ⟨hj, h⟩
  have sg : ∀ {j : Nat}, j ≠ i → (σ.set i (some (V.ref a)))[j]? = σ[j]? := fun h => List.getElem?_set_ne (Ne.symm h)
  have si : i < ρ.length → (σ.set i (some (V.ref a)))[i]? = some (some (.ref a)) := fun l => List.getElem?_set_self (by rw [p.st.len]; exact l)
  refine ⟨p.mono, p.frame, p.new, ⟨by rw [List.length_set, List.length_set]; exact p.st.len, p.st.sub, fun j d' h => ?_, fun j m' h => ?_, fun j k b m1 m2 h1 h2 h3 h4 => ?_, fun j m1 h1 h2 => ?_⟩, ?_⟩
  · rcases cs h with ⟨_, z, _⟩ | ⟨hj, h⟩
    · cases z
    · rw [sg hj]
      exact p.st.dat j d' h
  · rcases cs h with ⟨rfl, z, l⟩ | ⟨hj, h⟩
    · cases z
      exact ⟨a, si l, nF, rm⟩
    · rw [sg hj]
      exact p.st.own j m' h
  · rcases cs h1 with ⟨rfl, z1, l1⟩ | ⟨g1, q1⟩
    · rcases cs h2 with ⟨rfl, z2, l2⟩ | ⟨g2, q2⟩
      · rfl
      · rw [si l1] at h3
        rw [sg g2] at h4
        cases h3
        exact (no ⟨k, m2, q2, h4⟩).elim
    · rw [sg g1] at h3
      rcases cs h2 with ⟨rfl, z2, l2⟩ | ⟨g2, q2⟩
      · rw [si l2] at h4
        cases h4
        exact (no ⟨j, m1, q1, h3⟩).elim
      · rw [sg g2] at h4
        exact p.st.sep j k b m1 m2 q1 q2 h3 h4
  · rcases cs h2 with ⟨rfl, _, _⟩ | ⟨g1, h2⟩
    · omega
    · rw [sg g1]
      exact p.st.fix j m1 h1 h2
  · rintro b ⟨j, m1, h1, h2⟩
    rcases cs h1 with ⟨rfl, _, l⟩ | ⟨g1, h1⟩
    · rw [si l] at h2
      cases h2
      exact s
    · rw [sg g1] at h2
      exact p.low b ⟨j, m1, h1, h2⟩
end
end Pl
set_option Elab.async false
set_option linter.all false
set_option maxRecDepth 100000
set_option maxHeartbeats 4000000
/-! What expressions make: names, constants, operators, comparisons, tests, displays, subscripts, built-ins. -/
namespace Pl
open PySem PySem.Spec PyProof.Rows L2 Tk

theorem line10000 {n : Nat} (h : n ≤ 10000) : n ≤ sizeLine := Nat.le_trans h (by decide)
theorem line10000' {n : Nat} (h : n < 10000) : n < sizeLine := Nat.lt_of_lt_of_le h (by decide)
section
variable {K : PySem.W.Frag} {C : Cl} {B : Bw} {W : WX} {S : Addr → Prop} {F0 H0 F H : Hp} {ρ : Sl} {σ : L2.St} {Q : VK}
/-- the top in H, the parts among the data -/
def RepP (K : PySem.W.Frag) (C : Cl) (F H : Hp) (v : V) : D → Prop
  | .lst l => ∃ a vs, v = .ref a ∧ H a = some (.lst vs) ∧ Reps K C F vs l
  | .wri l => ∃ a vs, v = .ref a ∧ SqL K H a vs ∧ Reps K C F vs l
  | .tup l => ∃ a vs, v = .ref a ∧ H a = some (.tup vs) ∧ Reps K C F vs l
  | d => Rep K C F v d
theorem Rep.parts {v : V} {d : D} (r : Rep K C F v d) (s : Same F H) : RepP K C F H v d := by
  cases r with
  | lst e r => exact ⟨_, _, rfl, s _ _ e, r⟩
  | wri e r => exact ⟨_, _, rfl, s.seq e, r⟩
  | tup e r => exact ⟨_, _, rfl, s _ _ e, r⟩
  | non => exact .non
  | bl b => exact .bl b
  | int i => exact .int i
  | str x => exact .str x
  | ty n => exact .ty n
  | cls c => exact .cls c
  | obj e n r => exact .obj e n r
theorem RepP.rep {v : V} {d : D} (r : RepP K C F H v d) (s : Same F H) : Rep K C H v d := by
  cases d with
  | lst l => obtain ⟨a, vs, rfl, e, r⟩ := r; exact .lst e (r.to s)
  | wri l => obtain ⟨a, vs, rfl, e, r⟩ := r; exact .wri e (r.to s)
  | tup l => obtain ⟨a, vs, rfl, e, r⟩ := r; exact .tup e (r.to s)
  | _ => exact Rep.to r s
theorem RepM.parts {a : Addr} {m : MO} {d : D} (h : RepM K C F H a m) (e : m.see = some d) : RepP K C F H (.ref a) d := by
  cases m with
  | lst l =>
    obtain ⟨vs, q, r⟩ := h
    cases e
    exact ⟨_, _, rfl, q, r⟩
  | ins c fs => cases e
theorem RepRV.parts {v : V} {r : RV} {d : D} (h : RepRV K C S H0 ρ F σ H v r) (st : RepSt K C B ρ F σ H) (e : r.see ρ = some d) : RepP K C F H v d := by
  cases r with
  | dat d' => cases e; exact Rep.parts h st.sub
  | own m =>
    obtain ⟨a, rfl, n, rm, _⟩ := h
    exact rm.parts e
  | bor i =>
    have h : σ[i]? = some (some v) := h
    rcases slotSee_cases e with q | ⟨m, q, em⟩
    · obtain ⟨v', e1, r⟩ := st.dat i _ q
      rw [h] at e1
      cases e1
      exact r.parts st.sub
    · obtain ⟨a, e1, _, r⟩ := st.own i m q
      rw [h] at e1
      cases e1
      exact r.parts em
theorem RepRV.keep {v : V} {r : RV} {d : D} (h : RepRV K C S H0 ρ F σ H v r) (st : RepSt K C B ρ F σ H) (e : r.see ρ = some d) (n : ∀ l, d ≠ .lst l) : Rep K C F v d := by
  have no : ∀ m : MO, m.see = some d → False := fun m em => by
    cases m with
    | lst l => cases em; exact n l rfl
    | ins c fs => cases em
  cases r with
  | dat d' => cases e; exact h
  | own m => exact (no m e).elim
  | bor i =>
    have h : σ[i]? = some (some v) := h
    rcases slotSee_cases e with q | ⟨m, q, em⟩
    · obtain ⟨v', e1, r⟩ := st.dat i _ q
      rw [h] at e1
      cases e1
      exact r
    · exact (no m em).elim
theorem Rep.int_inv {v : V} {i : Int} (r : Rep K C F v (.int i)) : v = .int i := by cases r; rfl
theorem Rep.bl_inv {v : V} {b : Bool} (r : Rep K C F v (.bl b)) : v = .bl b := by cases r; rfl
theorem Rep.str_inv {v : V} {x : Str} (r : Rep K C F v (.str x)) : v = .str x := by cases r; rfl
theorem Rep.non_inv {v : V} (r : Rep K C F v .non) : v = .non := by cases r; rfl
end

/-! ### names, constants -/
def dVar (i : Nat) : DE := fun ρ => match ρ[i]? with
  | some (some (.dat d)) => some (.ok (.dat d) ρ)
  | some (some (.own _)) => some (.ok (.bor i) ρ)
  | _ => none
section
variable {X : Cx} {C : Cl} {B : Bw} {W : WX} {pos : Pos}
theorem pd_var {i : Nat} {x : Str} (h : PE X (.Name x pos) (tVar i)) : PD X C B W (.Name x pos) (dVar i) := PE.conv h fun σ H Q ⟨ρ, F, st, g⟩ => by
  unfold dVar at g
  split at g
  · rename_i d e
    obtain ⟨v, e1, r⟩ := st.dat i d e
    exact ⟨v, e1, g v F H (Post.start st) r⟩
  · rename_i m e
    obtain ⟨a, e1, _⟩ := st.own i m e
    exact ⟨_, e1, g _ F H (Post.start st) e1⟩
  · exact False.elim g
theorem pd_const {e : Expr} {v : V} {d : D} (h : PE X e (tC v)) (r : ∀ F, Rep X.K C F v d) : PD X C B W e (retE (.dat d)) := PE.conv h fun σ H Q ⟨ρ, F, st, g⟩ => g v F H (Post.start st) (r F)
theorem pd_int {i : Int} {j} : PD X C B W (.Constant (.int i) j pos) (retE (.dat (.int i))) := pd_const pe_int fun _ => .int i
theorem pd_bl {b : Bool} {j} : PD X C B W (.Constant (.bool b) j pos) (retE (.dat (.bl b))) := pd_const pe_bl fun _ => .bl b
theorem pd_str {x : Str} {j} : PD X C B W (.Constant (.str x) j pos) (retE (.dat (.str x))) := pd_const pe_str fun _ => .str x
theorem pd_non {j} : PD X C B W (.Constant .none j pos) (retE (.dat .non)) := pd_const pe_non fun _ => .non
end

/-! ### two operands -/
/-- an operation by values makes g -/
def Op2 (K : PySem.W.Frag) (C : Cl) (r : R2) (g : RV → RV → DE) : Prop := ∀ (B : Bw) (W : WX) (S : Addr → Prop) (F0 H0 : Hp) (ρ : Sl) (σ : L2.St) (F H : Hp) (x y : V) (r1 r2 : RV) (Q : VK),
  Post K C B S F0 H0 ρ σ F H → RepRV K C S H0 ρ F σ H x r1 → RepRV K C S H0 ρ F σ H y r2 → Goal K C B W S F0 H0 σ Q (g r1 r2 ρ) → r x y H Q
def dBin (g : RV → RV → DE) (fa fb : DE) : DE := bindE fa fun r1 => bindE fb fun r2 => g r1 r2
/-- from data to data -/
def lift2 (h : D → D → Option D) (r1 r2 : RV) : DE := fun ρ => match r1.see ρ, r2.see ρ with
  | some a, some b => match h a b with
    | some d => some (.ok (.dat d) ρ)
    | none => none
  | _, _ => none
def Sc2 (K : PySem.W.Frag) (C : Cl) (r : R2) (h : D → D → Option D) : Prop := ∀ (H : Hp) (x y : V) (a b d : D) (Q : VK), Rep K C H x a → Rep K C H y b → h a b = some d → (∀ v, (∀ F, Rep K C F v d) → Q v H) → r x y H Q
theorem Sc2.op {K : PySem.W.Frag} {C : Cl} {r : R2} {h : D → D → Option D} (s : Sc2 K C r h) : Op2 K C r (lift2 h) := by
  intro B W S F0 H0 ρ σ F H x y r1 r2 Q p q1 q2 g
  unfold lift2 at g
  split at g
  · rename_i a b e1 e2
    split at g
    · rename_i d e
      exact s H x y a b d Q (q1.see p.st e1) (q2.see p.st e2) e fun v r => g v F H p (r F)
    · exact False.elim g
  · exact False.elim g
theorem Op2.or {K : PySem.W.Frag} {C : Cl} {r r' : R2} {g g' : RV → RV → DE} (h : Op2 K C r g) (h' : Op2 K C r' g') : Op2 K C (fun x y H Q => r x y H Q ∨ r' x y H Q) (fun r1 r2 ρ => match g r1 r2 ρ with | some o => some o | none => g' r1 r2 ρ) := by
  intro B W S F0 H0 ρ σ F H x y r1 r2 Q p q1 q2 q
  dsimp only at q
  cases e : g r1 r2 ρ with
  | some o => rw [e] at q; exact .inl (h B W S F0 H0 ρ σ F H x y r1 r2 Q p q1 q2 (by rw [e]; exact q))
  | none => rw [e] at q; exact .inr (h' B W S F0 H0 ρ σ F H x y r1 r2 Q p q1 q2 q)
section
variable {X : Cx} {C : Cl} {B : Bw} {W : WX} {a b : Expr} {fa fb : DE} {pos : Pos} {r : R2} {g : RV → RV → DE}
theorem op2_run (og : Op2 X.K C r g) {σ : L2.St} {H : Hp} {Q : VK} (h : tD X.K C B W (dBin g fa fb) σ H Q) : tOp r (tD X.K C B W fa) (tD X.K C B W fb) σ H Q := by
  obtain ⟨ρ, F, st, g0⟩ := h
  refine tG_bind (Post.start st) g0 fun r1 ρ1 v1 F1 H1 g1 p1 _ q1 => tG_bind p1 g1 fun r2 ρ2 v2 F2 H2 g2 p2 s2 q2 => ?_
  exact og B W _ _ _ ρ2 σ F2 H2 v1 v2 r1 r2 Q p2 (RepRV.carry q1 s2) q2 g2
theorem pd_bin {op : Operator} (ho : OpR X (binaryOp op) r) (og : Op2 X.K C r g) (ha : PD X C B W a fa) (hb : PD X C B W b fb) : PD X C B W (.BinOp a op b pos) (dBin g fa fb) := PE.conv (pe_op ho ha hb) fun _ _ _ h => op2_run og h
theorem pd_cmp {op : CmpOp} (ho : OpR X (compareOp op) r) (og : Op2 X.K C r g) (ha : PD X C B W a fa) (hb : PD X C B W b fb) (hm : behindInMarks op b = false) : PD X C B W (.Compare a [op] [b] pos) (dBin g fa fb) := PE.conv (pe_cmpR ho ha hb hm) fun _ _ _ h => op2_run og h
theorem pd_ixR (hr : IxR X r) (og : Op2 X.K C r g) (ha : PD X C B W a fa) (hb : PD X C B W b fb) (hs : PlainIx b) : PD X C B W (.Subscript a b pos) (dBin g fa fb) := PE.conv (pe_ix hr ha hb hs) fun _ _ _ h => op2_run og h
end

/-! ### whole numbers -/
def hI (f : Int → Int → Option D) : D → D → Option D
  | .int a, .int b => f a b
  | _, _ => none
theorem hI_inv {f : Int → Int → Option D} {a b d : D} (h : hI f a b = some d) : ∃ i j, a = .int i ∧ b = .int j ∧ f i j = some d := by
  match a, b, h with
  | .int i, .int j, h => exact ⟨i, j, rfl, rfl, h⟩
def cMul (i j : Int) : Bool := (decide (i.natAbs < 2 ^ 64) || decide (j.natAbs < 2 ^ 64)) || decide (i.natAbs.log2 + j.natAbs.log2 < 1000000)
def cDiv (i j : Int) : Bool := decide (0 < j) && decide (j.natAbs.log2 < 9000)
def cPow (i j : Int) : Bool := decide (0 ≤ j) && decide (j ≤ 1000000) && decide (i.natAbs < 2 ^ 64)
section
variable {K : PySem.W.Frag} {C : Cl} {X : Cx}
theorem sc_I0 {g : Int → Int → V} {f : Int → Int → D} (rep : ∀ i j F, Rep K C F (g i j) (f i j)) : Sc2 K C (rI0 g) (hI fun i j => some (f i j)) := by
  intro H x y a b d Q ra rb e q
  obtain ⟨i, j, rfl, rfl, h⟩ := hI_inv e
  cases h
  exact ⟨i, j, ra.int_inv, rb.int_inv, q _ (rep i j)⟩
theorem sc_I {Cd : Int → Int → Prop} {c : Int → Int → Bool} {g : Int → Int → V} {f : Int → Int → D} (hc : ∀ i j, c i j = true → Cd i j) (rep : ∀ i j F, Rep K C F (g i j) (f i j)) : Sc2 K C (rI Cd g) (hI fun i j => if c i j = true then some (f i j) else none) := by
  intro H x y a b d Q ra rb e q
  obtain ⟨i, j, rfl, rfl, h⟩ := hI_inv e
  by_cases hh : c i j = true
  · rw [if_pos hh] at h
    cases h
    exact ⟨i, j, ra.int_inv, rb.int_inv, hc i j hh, q _ (rep i j)⟩
  · rw [if_neg hh] at h
    cases h
abbrev gSub := lift2 (hI fun i j => some (.int (i - j)))
abbrev gFdiv := lift2 (hI fun i j => if cDiv i j = true then some (.int (i / j)) else none)
abbrev gMod := lift2 (hI fun i j => if decide (0 < j) = true then some (.int (i % j)) else none)
abbrev gPow := lift2 (hI fun i j => if cPow i j = true then some (.int (i ^ j.toNat)) else none)
abbrev gShr := lift2 (hI fun i j => if decide (0 ≤ j) = true then some (.int (i / 2 ^ j.toNat)) else none)
abbrev gShl := lift2 (hI fun i j => if cPow i j = true then some (.int (i * 2 ^ j.toNat)) else none)
abbrev gBand := lift2 (hI fun i j => some (.int (Builtin.bitAnd i j)))
abbrev gLt := lift2 (hI fun i j => some (.bl (decide (i < j))))
abbrev gLe := lift2 (hI fun i j => some (.bl (decide (i ≤ j))))
abbrev gGt := lift2 (hI fun i j => some (.bl (decide (j < i))))
abbrev gGe := lift2 (hI fun i j => some (.bl (decide (j ≤ i))))
theorem o_sub : Op2 K C (rI0 fun i j => .int (i - j)) gSub := (sc_I0 fun _ _ _ => .int _).op
theorem o_fdiv : Op2 K C (rI CDivW fun i j => .int (i / j)) gFdiv := (sc_I (fun i j h => by unfold cDiv at h; simp only [Bool.and_eq_true, decide_eq_true_eq] at h; exact h) fun _ _ _ => .int _).op
theorem o_mod : Op2 K C (rI (fun _ j => 0 < j) fun i j => .int (i % j)) gMod := (sc_I (fun i j h => of_decide_eq_true h) fun _ _ _ => .int _).op
theorem o_pow : Op2 K C (rI CPow fun i j => .int (i ^ j.toNat)) gPow := (sc_I (fun i j h => by unfold cPow at h; simp only [Bool.and_eq_true, decide_eq_true_eq] at h; exact ⟨h.1.1, h.1.2, h.2⟩) fun _ _ _ => .int _).op
theorem o_shr : Op2 K C (rI (fun _ j => 0 ≤ j) fun i j => .int (i / 2 ^ j.toNat)) gShr := (sc_I (fun i j h => of_decide_eq_true h) fun _ _ _ => .int _).op
theorem o_shl : Op2 K C (rI CPow fun i j => .int (i * 2 ^ j.toNat)) gShl := (sc_I (fun i j h => by unfold cPow at h; simp only [Bool.and_eq_true, decide_eq_true_eq] at h; exact ⟨h.1.1, h.1.2, h.2⟩) fun _ _ _ => .int _).op
theorem o_band : Op2 K C (rI0 fun i j => .int (Builtin.bitAnd i j)) gBand := (sc_I0 fun _ _ _ => .int _).op
theorem o_lt : Op2 K C (rI0 fun i j => .bl (decide (i < j))) gLt := (sc_I0 fun _ _ _ => .bl _).op
theorem o_le : Op2 K C (rI0 fun i j => .bl (decide (i ≤ j))) gLe := (sc_I0 fun _ _ _ => .bl _).op
theorem o_gt : Op2 K C (rI0 fun i j => .bl (decide (j < i))) gGt := (sc_I0 fun _ _ _ => .bl _).op
theorem o_ge : Op2 K C (rI0 fun i j => .bl (decide (j ≤ i))) gGe := (sc_I0 fun _ _ _ => .bl _).op

/-! ### + of numbers, texts, lists, tuples; * of numbers, of a list or a tuple so often -/
def gAdd (r1 r2 : RV) : DE := fun ρ => match r1.see ρ, r2.see ρ with
  | some (.int a), some (.int b) => some (.ok (.dat (.int (a + b))) ρ)
  | some (.str a), some (.str b) => if a.length + b.length ≤ 10000 then some (.ok (.dat (.str (a ++ b))) ρ) else none
  | some (.lst a), some (.lst b) => if a.length + b.length ≤ 10000 then some (.ok (.own (.lst (a ++ b))) ρ) else none
  | some (.tup a), some (.tup b) => if a.length + b.length ≤ 10000 then some (.ok (.dat (.tup (a ++ b))) ρ) else none
  | _, _ => none
theorem op_addA : OpR X (binaryOp .Add) (fun x y H Q => rI0 (fun i j => .int (i + j)) x y H Q ∨ (∃ i j, x = .str i ∧ y = .str j ∧ i.length + j.length ≤ sizeLine ∧ Q (.str (i ++ j)) H) ∨ rCat x y H Q ∨ rCatA X.K x y H Q) := op_add.or (op_add_str.or (op_cat.or op_catA))
theorem o_add : Op2 K C (fun x y H Q => rI0 (fun i j => .int (i + j)) x y H Q ∨ (∃ i j, x = .str i ∧ y = .str j ∧ i.length + j.length ≤ sizeLine ∧ Q (.str (i ++ j)) H) ∨ rCat x y H Q ∨ rCatA K x y H Q) gAdd := by
  intro B W S F0 H0 ρ σ F H x y r1 r2 Q p q1 q2 g
  unfold gAdd at g
  split at g
  · rename_i e1 e2
    exact .inl ⟨_, _, (q1.see p.st e1).int_inv, (q2.see p.st e2).int_inv, g _ F H p (.int _)⟩
  · rename_i a b e1 e2
    by_cases h : a.length + b.length ≤ 10000
    · rw [if_pos h] at g
      exact .inr (.inl ⟨_, _, (q1.see p.st e1).str_inv, (q2.see p.st e2).str_inv, line10000 h, g _ F H p (.str _)⟩)
    · rw [if_neg h] at g
      exact False.elim g
  · rename_i a b e1 e2
    by_cases h : a.length + b.length ≤ 10000
    · rw [if_pos h] at g
      obtain ⟨a1, vs1, rfl, h1, z1⟩ := q1.parts p.st e1
      obtain ⟨a2, vs2, rfl, h2, z2⟩ := q2.parts p.st e2
      exact .inr (.inr (.inl ⟨a1, a2, vs1, vs2, rfl, rfl, h1, h2, by rw [z1.length, z2.length]; exact line10000 h, fun l n => g.newL p n (z1.append z2)⟩))
    · rw [if_neg h] at g
      exact False.elim g
  · rename_i a b e1 e2
    by_cases h : a.length + b.length ≤ 10000
    · rw [if_pos h] at g
      obtain ⟨a1, vs1, rfl, h1, z1⟩ := q1.parts p.st e1
      obtain ⟨a2, vs2, rfl, h2, z2⟩ := q2.parts p.st e2
      refine .inr (.inr (.inr ⟨a1, a2, vs1, vs2, rfl, rfl, SqT.of h1, SqT.of h2, by rw [z1.length, z2.length]; exact line10000 h, ?_⟩))
      refine ⟨fun h0 => ?_, fun _ h0 => ?_, fun _ _ l n => g.newT p n (z1.append z2)⟩
      · subst h0
        cases z1
        exact g _ F H p (q2.keep p.st e2 fun _ z => by cases z)
      · subst h0
        cases z2
        rw [List.append_nil] at g
        exact g _ F H p (q1.keep p.st e1 fun _ z => by cases z)
    · rw [if_neg h] at g
      exact False.elim g
  · exact False.elim g
def gMul (r1 r2 : RV) : DE := fun ρ => match r1.see ρ, r2.see ρ with
  | some (.int a), some (.int b) => if cMul a b = true then some (.ok (.dat (.int (a * b))) ρ) else none
  | some (.lst a), some (.int b) => if decide (0 ≤ b) && decide (b ≤ 1000) && decide (a.length ≤ 10) then some (.ok (.own (.lst (List.replicate b.toNat a).flatten)) ρ) else none
  | some (.tup a), some (.int b) => if decide (0 < a.length) && decide (2 ≤ b) && decide (b ≤ 1000) && decide (a.length ≤ 10) then some (.ok (.dat (.tup (List.replicate b.toNat a).flatten)) ρ) else none
  | _, _ => none
theorem op_mulA : OpR X (binaryOp .Mult) (fun x y H Q => (rI CMul (fun i j => .int (i * j)) x y H Q ∨ rI CMulW (fun i j => .int (i * j)) x y H Q) ∨ rRep x y H Q ∨ rRepT X.K x y H Q) := (op_mul.or op_mulW).or (op_rep.or op_repT)
theorem Reps.times {F : Hp} {vs : List V} {ds : List D} (r : Reps K C F vs ds) : ∀ n : Nat, Reps K C F (List.replicate n vs).flatten (List.replicate n ds).flatten
  | 0 => .nil
  | n + 1 => by
    rw [List.replicate_succ, List.replicate_succ, List.flatten_cons, List.flatten_cons]
    exact r.append (Reps.times r n)
theorem o_mul : Op2 K C (fun x y H Q => (rI CMul (fun i j => .int (i * j)) x y H Q ∨ rI CMulW (fun i j => .int (i * j)) x y H Q) ∨ rRep x y H Q ∨ rRepT K x y H Q) gMul := by
  intro B W S F0 H0 ρ σ F H x y r1 r2 Q p q1 q2 g
  unfold gMul at g
  split at g
  · rename_i a b e1 e2
    by_cases h : cMul a b = true
    · rw [if_pos h] at g
      have q := g _ F H p (.int _)
      have x1 := (q1.see p.st e1).int_inv
      have y1 := (q2.see p.st e2).int_inv
      unfold cMul at h
      simp only [Bool.or_eq_true, decide_eq_true_eq] at h
      rcases h with (h | h) | h
      · exact .inl (.inl ⟨_, _, x1, y1, .inl ⟨by omega, by omega⟩, q⟩)
      · exact .inl (.inl ⟨_, _, x1, y1, .inr ⟨by omega, by omega⟩, q⟩)
      · exact .inl (.inr ⟨_, _, x1, y1, h, q⟩)
    · rw [if_neg h] at g
      exact False.elim g
  · rename_i a b e1 e2
    split at g
    · rename_i h
      simp only [Bool.and_eq_true, decide_eq_true_eq] at h
      obtain ⟨a1, vs1, rfl, h1, z1⟩ := q1.parts p.st e1
      refine .inr (.inl ⟨a1, b, vs1, rfl, (q2.see p.st e2).int_inv, h1, by omega, by omega, ?_, fun l n => g.newL p n (z1.times _)⟩)
      rw [z1.length]
      refine line10000 (Nat.le_trans (Nat.mul_le_mul h.2 (show b.toNat ≤ 1000 by omega)) (by decide))
    · exact False.elim g
  · rename_i a b e1 e2
    split at g
    · rename_i h
      simp only [Bool.and_eq_true, decide_eq_true_eq] at h
      obtain ⟨a1, vs1, rfl, h1, z1⟩ := q1.parts p.st e1
      have l1 := z1.length
      refine .inr (.inr ⟨a1, b, vs1, rfl, (q2.see p.st e2).int_inv, SqT.of h1, fun z => by rw [z] at l1; simp at l1; omega, by omega, by omega, by omega, fun l n => g.newT p n (z1.times _)⟩)
    · exact False.elim g
  · exact False.elim g

/-! ### items -/
def ixD (d : D) (i : Int) : Option D := match d with
  | .lst l => atI l i
  | .tup l => atI l i
  | .wri l => atI l i
  | .str z => if z.length ≤ 10000 then (atI z.cps.toList i).map fun c => .str ⟨#[c]⟩ else none
  | _ => none
def gIx (r1 r2 : RV) : DE := fun ρ => match r1.see ρ, r2.see ρ with
  | some d, some (.int i) => match ixD d i with
    | some z => some (.ok (.dat z) ρ)
    | none => none
  | _, _ => none
theorem atI_reps {F : Hp} {vs : List V} {ds : List D} {i : Int} {d : D} (r : Reps K C F vs ds) (e : atI ds i = some d) : ∃ v, atI vs i = some v ∧ Rep K C F v d := by
  unfold atI at e ⊢
  rw [r.length]
  cases h : ixN ds.length i with
  | none => rw [h] at e; cases e
  | some j =>
    rw [h] at e
    exact r.at e
theorem o_ix : Op2 K C (rIx K) gIx := by
  intro B W S F0 H0 ρ σ F H x y r1 r2 Q p q1 q2 g
  unfold gIx at g
  split at g
  · rename_i d i e1 e2
    have yi := (q2.see p.st e2).int_inv
    split at g
    · rename_i z ez
      cases d with
      | lst l =>
        obtain ⟨a1, vs1, rfl, h1, z1⟩ := q1.parts p.st e1
        obtain ⟨v, ev, rv⟩ := atI_reps z1 ez
        exact .inl ⟨_, _, _, _, rfl, yi, SqL.of h1, ev, g _ F H p rv⟩
      | wri l =>
        obtain ⟨a1, vs1, rfl, h1, z1⟩ := q1.parts p.st e1
        obtain ⟨v, ev, rv⟩ := atI_reps z1 ez
        exact .inl ⟨_, _, _, _, rfl, yi, h1, ev, g _ F H p rv⟩
      | tup l =>
        obtain ⟨a1, vs1, rfl, h1, z1⟩ := q1.parts p.st e1
        obtain ⟨v, ev, rv⟩ := atI_reps z1 ez
        exact .inr (.inl ⟨_, _, _, _, rfl, yi, SqT.of h1, ev, g _ F H p rv⟩)
      | str s =>
        unfold ixD at ez
        dsimp only at ez
        split at ez
        · rename_i hl
          cases hc : atI s.cps.toList i with
          | none => rw [hc] at ez; cases ez
          | some c =>
            rw [hc] at ez
            cases ez
            exact .inr (.inr ⟨s, i, c, (q1.see p.st e1).str_inv, yi, line10000 hl, hc, g _ F H p (.str _)⟩)
        · cases ez
      | _ => cases ez
    · exact False.elim g
  · exact False.elim g
end
end Pl
set_option Elab.async false
set_option linter.all false
set_option maxRecDepth 100000
set_option maxHeartbeats 4000000
/-! Data as the library's PyData: ==, in, repr; tests; displays; calls of built-ins. -/
namespace Pl
open PySem PySem.Spec PyProof.Rows L2 Tk
mutual
def D.py : D → PyData
  | .non => .none
  | .bl b => .bool b
  | .int i => .int i
  | .str x => .str x
  | .lst l => .list (D.pys l)
  | .wri l => .list (D.pys l)
  | .tup l => .tuple (D.pys l)
  | .obj _ _ => .dict []
  | .ty _ => .dict []
  | .cls _ => .dict []
def D.pys : List D → List PyData
  | [] => []
  | d :: r => d.py :: D.pys r
end
mutual
def D.isPy : D → Bool
  | .non => true
  | .bl _ => true
  | .int _ => true
  | .str _ => true
  | .lst l => D.arePy l
  | .wri l => D.arePy l
  | .tup l => D.arePy l
  | .obj _ _ => false
  | .ty _ => false
  | .cls _ => false
def D.arePy : List D → Bool
  | [] => true
  | d :: r => d.isPy && D.arePy r
end
theorem D.pys_eq : ∀ l : List D, D.pys l = l.map D.py
  | [] => rfl
  | d :: r => by rw [D.pys, D.pys_eq r, List.map_cons]
theorem D.arePy_iff : ∀ l : List D, D.arePy l = true ↔ ∀ d ∈ l, d.isPy = true
  | [] => by simp [D.arePy]
  | d :: r => by rw [D.arePy, Bool.and_eq_true, D.arePy_iff r]; simp
section
variable {K : PySem.W.Frag} {C : Cl} {F : Hp}
mutual
theorem Rep.dp : ∀ (d : D) (v : V), Rep K C F v d → d.isPy = true → Dp K F v d.py
  | .non, _, h, _ => by cases h; exact .non
  | .bl b, _, h, _ => by cases h; exact .bl b
  | .int i, _, h, _ => by cases h; exact .int i
  | .str x, _, h, _ => by cases h; exact .str x
  | .lst ds, _, h, e => by cases h with | lst q r => exact .lst (SqL.of q) (Reps.dp ds _ r e)
  | .wri ds, _, h, e => by cases h with | wri q r => exact .lst q (Reps.dp ds _ r e)
  | .tup ds, _, h, e => by cases h with | tup q r => exact .tup (SqT.of q) (Reps.dp ds _ r e)
  | .obj _ _, _, _, e => by cases e
  | .ty _, _, _, e => by cases e
  | .cls _, _, _, e => by cases e
theorem Reps.dp : ∀ (ds : List D) (vs : List V), Reps K C F vs ds → D.arePy ds = true → DpAll K F vs (D.pys ds)
  | [], _, h, _ => by cases h; exact .nil
  | d :: ds, _, h, e => by
    rw [D.arePy, Bool.and_eq_true] at e
    cases h with
    | cons x r => exact .cons (Rep.dp d _ x e.1) (Reps.dp ds _ r e.2)
end
end

/-! ### == and != -/
/-- data that is compared as the library compares it -/
def D.plain (d : D) : Bool := d.isPy && SeqAt.shaped d.py
/-- scalars that the library compares at once -/
def sEq : D → D → Option Bool
  | .int i, .int j => some (decide (i = j))
  | .str i, .str j => some (decide (i = j))
  | .bl i, .bl j => some (decide (i = j))
  | .non, .non => some true
  | .non, .int _ => some false
  | .int _, .non => some false
  | .non, .bl _ => some false
  | .bl _, .non => some false
  | .non, .str _ => some false
  | .str _, .non => some false
  | .int _, .str _ => some false
  | .str _, .int _ => some false
  | .bl _, .str _ => some false
  | .str _, .bl _ => some false
  | _, _ => none
def dEq (a b : D) : Option Bool := match sEq a b with
  | some c => some c
  | none => if a.plain && b.plain then some (PyData.eqv a.py b.py) else none
def hEq (a b : D) : Option D := (dEq a b).map fun c => .bl c
def hNe (a b : D) : Option D := (dEq a b).map fun c => .bl !c
abbrev gEq := lift2 hEq
abbrev gNe := lift2 hNe
section
variable {K : PySem.W.Frag} {C : Cl} {X : Cx}
theorem sEq_scal {H : Hp} {x y : V} {a b : D} {c : Bool} (ra : Rep K C H x a) (rb : Rep K C H y b) (e : sEq a b = some c) : scal x y = true ∧ decide (x = y) = c := by
  cases ra <;> cases rb <;> first
    | (cases e; done)
    | (cases e; exact ⟨rfl, by simp⟩)
theorem op_eqA (hu : X.A.units + 64 < cLine) : OpR X (compareOp .Eq) (fun x y H Q => rEq x y H Q ∨ rEqD X.K x y H Q) := op_eq.or (op_eqD hu)
theorem op_neA (hu : X.A.units + 64 < cLine) : OpR X (compareOp .NotEq) (fun x y H Q => rNe x y H Q ∨ rNeD X.K x y H Q) := op_ne.or (op_neD hu)
theorem dEq_cases {a b : D} {c : Bool} (h : dEq a b = some c) : sEq a b = some c ∨ (a.isPy = true ∧ b.isPy = true ∧ SeqAt.shaped a.py = true ∧ SeqAt.shaped b.py = true ∧ PyData.eqv a.py b.py = c) := by
  unfold dEq at h
  split at h
  · rename_i c' e
    cases h
    exact .inl e
  · split at h
    · rename_i p
      cases h
      unfold D.plain at p
      simp only [Bool.and_eq_true] at p
      exact .inr ⟨p.1.1, p.2.1, p.1.2, p.2.2, rfl⟩
    · cases h
theorem o_eq : Op2 K C (fun x y H Q => rEq x y H Q ∨ rEqD K x y H Q) gEq := Sc2.op (by
  intro H x y a b d Q ra rb e q
  unfold hEq at e
  cases h : dEq a b with
  | none => rw [h] at e; cases e
  | some c =>
    rw [h] at e
    cases e
    rcases dEq_cases h with s | ⟨p1, p2, s1, s2, z⟩
    · obtain ⟨t1, t2⟩ := sEq_scal ra rb s
      refine .inl ⟨t1, ?_⟩
      rw [t2]
      exact q _ fun F => .bl _
    · refine .inr ⟨_, _, Rep.dp _ _ ra p1, Rep.dp _ _ rb p2, s1, s2, ?_⟩
      rw [z]
      exact q _ fun F => .bl _)
theorem o_ne : Op2 K C (fun x y H Q => rNe x y H Q ∨ rNeD K x y H Q) gNe := Sc2.op (by
  intro H x y a b d Q ra rb e q
  unfold hNe at e
  cases h : dEq a b with
  | none => rw [h] at e; cases e
  | some c =>
    rw [h] at e
    cases e
    rcases dEq_cases h with s | ⟨p1, p2, s1, s2, z⟩
    · obtain ⟨t1, t2⟩ := sEq_scal ra rb s
      refine .inl ⟨t1, ?_⟩
      rw [t2]
      exact q _ fun F => .bl _
    · refine .inr ⟨_, _, Rep.dp _ _ ra p1, Rep.dp _ _ rb p2, s1, s2, ?_⟩
      rw [z]
      exact q _ fun F => .bl _)

/-! ### is None -/
def isNon : D → Bool
  | .non => true
  | _ => false
def hIsN (a b : D) : Option D := match b with
  | .non => some (.bl (isNon a))
  | _ => none
def hNotN (a b : D) : Option D := match b with
  | .non => some (.bl (!isNon a))
  | _ => none
abbrev gIsN := lift2 hIsN
abbrev gNotN := lift2 hNotN
theorem Rep.isNon {F : Hp} {v : V} {d : D} (r : Rep K C F v d) : decide (v = .non) = isNon d := by
  cases r <;> simp [Pl.isNon]
theorem o_isN : Op2 K C (fun x y H Q => y = .non ∧ Q (.bl (decide (x = .non))) H) gIsN := Sc2.op (by
  intro H x y a b d Q ra rb e q
  unfold hIsN at e
  split at e
  · cases e
    refine ⟨rb.non_inv, ?_⟩
    rw [ra.isNon]
    exact q _ fun F => .bl _
  · cases e)
theorem o_notN : Op2 K C (fun x y H Q => y = .non ∧ Q (.bl (!decide (x = .non))) H) gNotN := Sc2.op (by
  intro H x y a b d Q ra rb e q
  unfold hNotN at e
  split at e
  · cases e
    refine ⟨rb.non_inv, ?_⟩
    rw [ra.isNon]
    exact q _ fun F => .bl _
  · cases e)
end

/-! ### a value that becomes data; tests; both, either, choice -/
def froze (f : DE) : DE := bindE f fun r ρ => match toDat r ρ with
  | some (.ok d ρ') => some (.ok (.dat d) ρ')
  | _ => none
def asB (f : DE) : Ef Bool := bindE f fun r ρ => match r.see ρ with
  | some (.bl b) => some (.ok b ρ)
  | _ => none
def dAndT (fa fb : Ef Bool) : Ef Bool := bindE fa fun c => if c = true then fb else retE false
def dOrT (fa fb : Ef Bool) : Ef Bool := bindE fa fun c => if c = true then retE true else fb
def dNotT (fa : Ef Bool) : Ef Bool := bindE fa fun c => retE (!c)
def dAndV (fa fb : DE) : DE := bindE (asB fa) fun c => if c = true then fb else retE (.dat (.bl false))
def dOrV (fa fb : DE) : DE := bindE (asB fa) fun c => if c = true then retE (.dat (.bl true)) else fb
def dNotV (fa : DE) : DE := bindE (asB fa) fun c => retE (.dat (.bl (!c)))
def dIfE (fc : Ef Bool) (fa fb : DE) : DE := bindE fc fun c => if c = true then fa else fb
section
variable {X : Cx} {C : Cl} {B : Bw} {W : WX} {a b c : Expr} {fa fb : DE} {ta tb : Ef Bool} {pos : Pos} {rest : List Expr}
theorem pd_frz (h : PD X C B W a fa) : PD X C B W a (froze fa) := PE.conv h fun σ H Q ⟨ρ, F, st, g⟩ => tG_bind (Post.start st) g fun r1 ρ1 v F1 H1 g1 p1 _ q1 => by
  try dsimp only at g1
  split at g1
  · rename_i d ρ' e
    obtain ⟨F2, p2, r2, _⟩ := p1.toDat q1 e
    exact g1 v F2 H1 p2 r2
  · exact False.elim g1
theorem asB_run {K : PySem.W.Frag} {σ : L2.St} {H : Hp} {Q : Bool → Hp → Prop} (h : tT K C B W (asB fa) σ H Q) : tD K C B W fa σ H fun x H1 => ∃ k, x = .bl k ∧ Q k H1 := by
  obtain ⟨ρ, F, st, g⟩ := h
  refine tG_bind (Post.start st) g fun r1 ρ1 v F1 H1 g1 p1 _ q1 => ?_
  try dsimp only at g1
  split at g1
  · rename_i k e
    exact ⟨k, (RepRV.see q1 p1.st e).bl_inv, g1 k F1 H1 p1 rfl⟩
  · exact False.elim g1
theorem pdt_val (h : PD X C B W a fa) (he : ∀ whole, isTrue a X.env whole = (do let v ← whole; standAt a.pos; holding [v] (truthy v)) := by intro _; rfl) : PDT X C B W a (asB fa) := PT.conv (pt_val h he) fun _ _ _ q => asB_run q
theorem pdt_cmp {r : R2} {g : RV → RV → DE} {op : CmpOp} (ho : OpR X (compareOp op) r) (og : Op2 X.K C r g) (ha : PD X C B W a fa) (hb : PD X C B W b fb) (hm : behindInMarks op b = false) : PDT X C B W (.Compare a [op] [b] pos) (asB (dBin g fa fb)) := PT.conv (pt_cmpR ho ha hb hm) fun σ H Q q => by
  have z := asB_run q
  exact op2_run (fa := fa) (fb := fb) og (C := C) (B := B) (W := W) z
theorem pdw_one_and (h : PDT X C B W a ta) : PDW X C B W (.BoolOp .And [a] pos) ta := pw_and1 h
theorem pdw_one_or (h : PDT X C B W a ta) : PDW X C B W (.BoolOp .Or [a] pos) ta := pw_or1 h
theorem pdw_and (ha : PDT X C B W a ta) (hb : PDW X C B W (.BoolOp .And (b :: rest) pos) tb) : PDW X C B W (.BoolOp .And (a :: b :: rest) pos) (dAndT ta tb) := PW.conv (pw_and ha hb) fun σ H Q ⟨ρ, F, st, g⟩ => tG_bind (Post.start st) g fun r1 ρ1 v F1 H1 g1 p1 _ q1 => by
  obtain rfl : v = r1 := q1
  cases v with
  | true => rw [if_pos rfl] at g1 ⊢; exact tG_last p1 g1
  | false => rw [if_neg Bool.false_ne_true] at g1 ⊢; exact g1 false F1 H1 p1 rfl
theorem pdw_or (ha : PDT X C B W a ta) (hb : PDW X C B W (.BoolOp .Or (b :: rest) pos) tb) : PDW X C B W (.BoolOp .Or (a :: b :: rest) pos) (dOrT ta tb) := PW.conv (pw_or ha hb) fun σ H Q ⟨ρ, F, st, g⟩ => tG_bind (Post.start st) g fun r1 ρ1 v F1 H1 g1 p1 _ q1 => by
  obtain rfl : v = r1 := q1
  cases v with
  | true => rw [if_pos rfl] at g1 ⊢; exact g1 true F1 H1 p1 rfl
  | false => rw [if_neg Bool.false_ne_true] at g1 ⊢; exact tG_last p1 g1
theorem pdt_w (h : PDW X C B W a ta) : PDT X C B W a ta := PW.pt h
theorem pdt_not (ha : PDT X C B W a ta) : PDT X C B W (.UnaryOp .Not a pos) (dNotT ta) := PT.conv (pt_not ha) fun σ H Q ⟨ρ, F, st, g⟩ => tG_bind (Post.start st) g fun r1 ρ1 v F1 H1 g1 p1 _ q1 => by
  obtain rfl : v = r1 := q1
  exact g1 _ F1 H1 p1 rfl
theorem pd_one {op} (h : PD X C B W a fa) : PD X C B W (.BoolOp op [a] pos) fa := pe_one h
theorem asB_bind {K : PySem.W.Frag} {S : Addr → Prop} {F0 H0 F H : Hp} {ρ : Sl} {σ : L2.St} {Q : VK} {k : Bool → DE} {Qa : VK} (p : Post K C B S F0 H0 ρ σ F H) (g : Goal K C B W S F0 H0 σ Q (bindE (asB fa) k ρ))
    (h : ∀ c ρ1 F1 H1, Goal K C B W S F0 H0 σ Q (k c ρ1) → Post K C B S F0 H0 ρ1 σ F1 H1 → Qa (.bl c) H1) : tD K C B W fa σ H Qa := by
  have e : bindE (asB fa) k ρ = bindE fa (fun r => bindE (fun ρ => match r.see ρ with | some (.bl b) => some (.ok b ρ) | _ => none) k) ρ := by
    unfold bindE asB bindE
    cases fa ρ with
    | none => rfl
    | some o => cases o <;> rfl
  rw [e] at g
  refine tG_bind p g fun r1 ρ1 v F1 H1 g1 p1 _ q1 => ?_
  unfold bindE at g1
  try dsimp only at g1
  cases s : r1.see ρ1 with
  | none => rw [s] at g1; exact False.elim g1
  | some d =>
    rw [s] at g1
    cases d with
    | bl c =>
      rw [(RepRV.see q1 p1.st s).bl_inv]
      exact h c ρ1 F1 H1 g1 p1
    | _ => exact False.elim g1
theorem pd_and (ha : PD X C B W a fa) (hb : PD X C B W (.BoolOp .And (b :: rest) pos) fb) : PD X C B W (.BoolOp .And (a :: b :: rest) pos) (dAndV fa fb) := PE.conv (pe_and ha hb) fun σ H Q ⟨ρ, F, st, g⟩ => asB_bind (Post.start st) g fun c ρ1 F1 H1 g1 p1 => by
  refine ⟨c, rfl, ?_⟩
  cases c with
  | true => rw [if_pos rfl] at g1 ⊢; exact tG_last p1 g1
  | false => rw [if_neg Bool.false_ne_true] at g1 ⊢; exact g1 _ F1 H1 p1 (.bl false)
theorem pd_or (ha : PD X C B W a fa) (hb : PD X C B W (.BoolOp .Or (b :: rest) pos) fb) : PD X C B W (.BoolOp .Or (a :: b :: rest) pos) (dOrV fa fb) := PE.conv (pe_or ha hb) fun σ H Q ⟨ρ, F, st, g⟩ => asB_bind (Post.start st) g fun c ρ1 F1 H1 g1 p1 => by
  refine ⟨c, rfl, ?_⟩
  cases c with
  | true => rw [if_pos rfl] at g1 ⊢; exact g1 _ F1 H1 p1 (.bl true)
  | false => rw [if_neg Bool.false_ne_true] at g1 ⊢; exact tG_last p1 g1
theorem pd_not (ha : PD X C B W a fa) : PD X C B W (.UnaryOp .Not a pos) (dNotV fa) := PE.conv (pe_not ha) fun σ H Q ⟨ρ, F, st, g⟩ => asB_bind (Post.start st) g fun c ρ1 F1 H1 g1 p1 => ⟨c, rfl, g1 _ F1 H1 p1 (.bl _)⟩
theorem pd_if (hc : PDT X C B W c ta) (ha : PD X C B W a fa) (hb : PD X C B W b fb) : PD X C B W (.IfExp c a b pos) (dIfE ta fa fb) := PE.conv (pe_ifExp hc ha hb) fun σ H Q ⟨ρ, F, st, g⟩ => tG_bind (Post.start st) g fun r1 ρ1 v F1 H1 g1 p1 _ q1 => by
  obtain rfl : v = r1 := q1
  cases v with
  | true => rw [if_pos rfl] at g1 ⊢; exact tG_last p1 g1
  | false => rw [if_neg Bool.false_ne_true] at g1 ⊢; exact tG_last p1 g1
end

/-! ### lists of values, displays -/
def dNil : Ef (List RV) := retE []
def dCons (fa : DE) (fr : Ef (List RV)) : Ef (List RV) := bindE fa fun r => bindE fr fun rs => retE (r :: rs)
def allDat : List RV → Option (List D)
  | [] => some []
  | .dat d :: r => (allDat r).map fun ds => d :: ds
  | _ :: _ => none
theorem RepRVs.dats {K : PySem.W.Frag} {C : Cl} {S : Addr → Prop} {H0 F H : Hp} {ρ : Sl} {σ : L2.St} : ∀ {vs : List V} {rs : List RV} {ds : List D}, RepRVs K C S H0 ρ F σ H vs rs → allDat rs = some ds → Reps K C F vs ds
  | _, _, _, .nil, e => by cases e; exact .nil
  | _, _, ds, .cons (r := r) (rs := rs) x t _, e => by
    cases r with
    | dat d =>
      unfold allDat at e
      cases h : allDat rs with
      | none => rw [h] at e; cases e
      | some l =>
        rw [h] at e
        cases e
        exact .cons x (t.dats h)
    | own m => cases e
    | bor i => cases e
def dTup (fl : Ef (List RV)) : DE := bindE fl fun rs ρ => match allDat rs with
  | some ds => if ds.length ≤ 1000 then some (.ok (.dat (.tup ds)) ρ) else none
  | none => none
def dLst (fl : Ef (List RV)) : DE := bindE fl fun rs ρ => match allDat rs with
  | some ds => if ds.length ≤ 1000 then some (.ok (.own (.lst ds)) ρ) else none
  | none => none
/-- a call by values makes g -/
def OpL (K : PySem.W.Frag) (C : Cl) (r : List V → Hp → VK → Prop) (g : List RV → DE) : Prop := ∀ (B : Bw) (W : WX) (S : Addr → Prop) (F0 H0 : Hp) (ρ : Sl) (σ : L2.St) (F H : Hp) (vs : List V) (rs : List RV) (Q : VK),
  Post K C B S F0 H0 ρ σ F H → RepRVs K C S H0 ρ F σ H vs rs → Goal K C B W S F0 H0 σ Q (g rs ρ) → r vs H Q
def dCall (g : List RV → DE) (fl : Ef (List RV)) : DE := bindE fl g
section
variable {X : Cx} {C : Cl} {B : Bw} {W : WX} {a e : Expr} {es : List Expr} {fa : DE} {fl : Ef (List RV)} {pos p : Pos} {x : Str} {id T : String} {r : List V → Hp → VK → Prop} {g : List RV → DE}
theorem pda_nil : PDA X C B W [] dNil := PA.conv pa_nil fun σ H Q ⟨ρ, F, st, g⟩ => g _ F H (Post.start st) .nil
theorem pda_cons (ha : PD X C B W a fa) (hr : PDA X C B W es fl) (hs : starEach (a :: es) X.env = (false, eval a X.env) :: starEach es X.env := by rfl) : PDA X C B W (a :: es) (dCons fa fl) := PA.conv (pa_cons ha hr hs) fun σ H Q ⟨ρ, F, st, g⟩ =>
  tG_bind (Post.start st) g fun r1 ρ1 v F1 H1 g1 p1 _ q1 => tG_bindR (k1 := kL X.K C) p1 g1 fun r2 ρ2 vs F2 H2 g2 p2 s2 q2 raw => g2 (v :: vs) F2 H2 p2 (.cons (RepRV.carry q1 s2) q2 (by
    rintro m rfl k m' hk hv
    obtain ⟨a, rfl, _, rm, no, _⟩ := q1
    obtain ⟨v', e, a', z, _, _, _, s⟩ := RepRVs.at raw hk
    rw [hv] at e
    cases e
    cases z
    obtain ⟨o, ho⟩ := rm.there
    rcases s with s | s
    · exact no s
    · rw [ho] at s; cases s))
theorem pd_tup {k} (h : PDA X C B W es fl) : PD X C B W (.Tuple es k pos) (dTup fl) := PE.conv (pe_tup h) fun σ H Q ⟨ρ, F, st, g⟩ => tG_bind (k1 := kL X.K C) (Post.start st) g fun rs ρ1 vs F1 H1 g1 p1 _ q1 => by
  try dsimp only at g1
  split at g1
  · rename_i ds e
    have q := RepRVs.dats q1 e
    split at g1
    · rename_i l
      exact ⟨by rw [q.length]; exact Nat.le_of_lt (small1000 l), fun a n => Goal.newT g1 p1 n q⟩
    · exact False.elim g1
  · exact False.elim g1
theorem pd_lst (h : PDA X C B W es fl) : PD X C B W (.List es pos) (dLst fl) := PE.conv (pe_lst h) fun σ H Q ⟨ρ, F, st, g⟩ => tG_bind (k1 := kL X.K C) (Post.start st) g fun rs ρ1 vs F1 H1 g1 p1 _ q1 => by
  try dsimp only at g1
  split at g1
  · rename_i ds e
    have q := RepRVs.dats q1 e
    split at g1
    · rename_i l
      exact ⟨by rw [q.length]; exact Nat.le_of_lt (small1000 l), fun a n => Goal.newL g1 p1 n q⟩
    · exact False.elim g1
  · exact False.elim g1
theorem opL_run (og : OpL X.K C r g) {σ : L2.St} {H : Hp} {Q : VK} (h : tD X.K C B W (dCall g fl) σ H Q) : tCB r (tL X.K C B W fl) σ H Q := by
  obtain ⟨ρ, F, st, g0⟩ := h
  exact tG_bind (k1 := kL X.K C) (Post.start st) g0 fun rs ρ1 vs F1 H1 g1 p1 _ q1 => og B W _ _ _ ρ1 σ F1 H1 vs rs Q p1 q1 g1
theorem pd_callB (hc : CallR X (.builtin id) r) (og : OpL X.K C r g) (hg : Gl X x) (hm : X.mg x = none) (hv : bootBuiltins x = some (.builtin id)) (ha : PDA X C B W (e :: es) fl) (hn : x ≠ "__name__" := by decide) (hdb : (x == ("__debug__" : Str)) = false := by decide)
    (he : starEach (e :: es) X.env = (false, eval e X.env) :: starEach es X.env := by rfl) (hpl : (backTo pos (starEach es X.env)).any (·.1) = false := by rfl) : PD X C B W (.Call (.Name x p) (e :: es) [] pos) (dCall g fl) := PE.conv (pe_callB hc hg hm hv ha hn hdb he hpl) fun _ _ _ h => opL_run og h
theorem pd_callTy (hc : CallR X (.type T) r) (og : OpL X.K C r g) (hg : Gl X x) (hm : X.mg x = none) (hv : bootBuiltins x = some (.type T)) (ha : PDA X C B W (e :: es) fl) (hn : x ≠ "__name__" := by decide) (hdb : (x == ("__debug__" : Str)) = false := by decide)
    (he : starEach (e :: es) X.env = (false, eval e X.env) :: starEach es X.env := by rfl) (hpl : (backTo pos (starEach es X.env)).any (·.1) = false := by rfl) : PD X C B W (.Call (.Name x p) (e :: es) [] pos) (dCall g fl) := PE.conv (pe_callTy hc hg hm hv ha hn hdb he hpl) fun _ _ _ h => opL_run og h
theorem pd_callM (hc : CallR X (.builtin id) r) (og : OpL X.K C r g) (hg : Gl X x) (hm : X.mg x = some (.builtin id)) (ha : PDA X C B W (e :: es) fl) (hdb : (x == ("__debug__" : Str)) = false := by decide)
    (he : starEach (e :: es) X.env = (false, eval e X.env) :: starEach es X.env := by rfl) (hpl : (backTo pos (starEach es X.env)).any (·.1) = false := by rfl) : PD X C B W (.Call (.Name x p) (e :: es) [] pos) (dCall g fl) := PE.conv (pe_callBfun hc hg hm ha hdb he hpl) fun _ _ _ h => opL_run og h
/-- a built-in class as a value -/
theorem pd_ty {T : String} (hg : Gl X x) (hm : X.mg x = none) (hv : bootBuiltins x = some (.type T)) (hn : x ≠ "__name__" := by decide) (hd : (x == ("__debug__" : Str)) = false := by decide) : PD X C B W (.Name x pos) (retE (.dat (.ty T))) := pd_const (pe_bltn (v := .ty T) hg hm hv rfl hn hd) fun _ => .ty T
/-- an own class as a value -/
theorem pd_cls {c : Nat} (hg : Gl X x) (hm : X.mg x = some (.ref (C.adr c))) (hd : (x == ("__debug__" : Str)) = false := by decide) : PD X C B W (.Name x pos) (retE (.dat (.cls c))) := pd_const (pe_glob (v := .ref (C.adr c)) hg hm rfl hd) fun _ => .cls c
end
end Pl
set_option Elab.async false
set_option linter.all false
set_option maxRecDepth 100000
set_option maxHeartbeats 4000000
/-! Built-ins by values; isinstance; repr. -/
namespace Pl
open PySem PySem.Spec PyProof.Rows L2 Tk
theorem CallR.or {X : Cx} {f : Value} {r r' : List V → Hp → VK → Prop} (h : CallR X f r) (h' : CallR X f r') : CallR X f (fun xs H Q => r xs H Q ∨ r' xs H Q) := by
  intro pins s σ H xs us Q I rx q
  rcases q with q | q
  · exact h pins s σ H xs us Q I rx q
  · exact h' pins s σ H xs us Q I rx q
section
variable {K : PySem.W.Frag} {C : Cl} {X : Cx}
/-- one value, seen as data -/
def on1 (h : D → Option D) : List RV → DE := fun rs ρ => match rs with
  | [r] => match r.see ρ with
    | some a => match h a with
      | some d => some (.ok (.dat d) ρ)
      | none => none
    | none => none
  | _ => none
def on2 (h : D → D → Option D) : List RV → DE := fun rs ρ => match rs with
  | [r, r'] => match r.see ρ, r'.see ρ with
    | some a, some b => match h a b with
      | some d => some (.ok (.dat d) ρ)
      | none => none
    | _, _ => none
  | _ => none
/-- what one value must bring -/
theorem on1_op {r : List V → Hp → VK → Prop} {h : D → Option D} (ok : ∀ (F H : Hp) (x : V) (a d : D) (Q : VK), RepP K C F H x a → h a = some d → (∀ v, (∀ F, Rep K C F v d) → Q v H) → r [x] H Q) : OpL K C r (on1 h) := by
  intro B W S F0 H0 ρ σ F H vs rs Q p q g
  unfold on1 at g
  split at g
  · rename_i r1
    cases q with
    | cons q1 qt _ =>
    cases qt
    split at g
    · rename_i a e
      split at g
      · rename_i d z
        exact ok F H _ a d Q (q1.parts p.st e) z fun v r => g v F H p (r F)
      · exact False.elim g
    · exact False.elim g
  · exact False.elim g
theorem on2_op {r : List V → Hp → VK → Prop} {h : D → D → Option D} (ok : ∀ (F H : Hp) (x y : V) (a b d : D) (Q : VK), RepP K C F H x a → RepP K C F H y b → h a b = some d → (∀ v, (∀ F, Rep K C F v d) → Q v H) → r [x, y] H Q) : OpL K C r (on2 h) := by
  intro B W S F0 H0 ρ σ F H vs rs Q p q g
  unfold on2 at g
  split at g
  · rename_i r1 r2
    cases q with
    | cons q1 qt _ =>
    cases qt with
    | cons q2 qt _ =>
    cases qt
    split at g
    · rename_i a b e1 e2
      split at g
      · rename_i d z
        exact ok F H _ _ a b d Q (q1.parts p.st e1) (q2.parts p.st e2) z fun v r => g v F H p (r F)
      · exact False.elim g
    · exact False.elim g
  · exact False.elim g
theorem RepP.int_inv {F H : Hp} {v : V} {i : Int} (r : RepP K C F H v (.int i)) : v = .int i := Rep.int_inv r
theorem RepP.str_inv {F H : Hp} {v : V} {i : Str} (r : RepP K C F H v (.str i)) : v = .str i := Rep.str_inv r
theorem RepP.bl_inv {F H : Hp} {v : V} {i : Bool} (r : RepP K C F H v (.bl i)) : v = .bl i := Rep.bl_inv r

def hLen : D → Option D
  | .lst l => some (.int l.length)
  | .wri l => some (.int l.length)
  | .tup l => some (.int l.length)
  | .str z => if z.length ≤ 10000 then some (.int z.length) else none
  | _ => none
theorem o_len : OpL K C (fun xs H Q => ∃ x n, xs = [x] ∧ LenV K x H n ∧ Q (.int n) H) (on1 hLen) := on1_op (by
  intro F H x a d Q r e q
  unfold hLen at e
  split at e
  · cases e
    obtain ⟨p, vs, rfl, h, z⟩ := r
    exact ⟨_, vs.length, rfl, .inl ⟨_, SqL.of h, rfl⟩, by rw [z.length]; exact q _ fun F => .int _⟩
  · cases e
    obtain ⟨p, vs, rfl, h, z⟩ := r
    exact ⟨_, vs.length, rfl, .inl ⟨_, h, rfl⟩, by rw [z.length]; exact q _ fun F => .int _⟩
  · cases e
    obtain ⟨p, vs, rfl, h, z⟩ := r
    exact ⟨_, vs.length, rfl, .inr ⟨_, SqT.of h, rfl⟩, by rw [z.length]; exact q _ fun F => .int _⟩
  · rename_i z
    split at e
    · rename_i l
      cases e
      cases r.str_inv
      exact ⟨_, z.length, rfl, ⟨line10000 l, rfl⟩, q _ fun F => .int _⟩
    · cases e
  · cases e)
def hAbs : D → Option D
  | .int i => some (.int (if i < 0 then -i else i))
  | _ => none
theorem o_abs : OpL K C (fun xs H Q => ∃ i, xs = [.int i] ∧ Q (.int (if i < 0 then -i else i)) H) (on1 hAbs) := on1_op (by
  intro F H x a d Q r e q
  unfold hAbs at e
  split at e
  · cases e
    cases r.int_inv
    exact ⟨_, rfl, q _ fun F => .int _⟩
  · cases e)
def hInt : D → Option D
  | .int i => some (.int i)
  | .bl b => some (.int (if b then 1 else 0))
  | _ => none
theorem o_int : OpL K C (fun xs H Q => (∃ i, xs = [.int i] ∧ Q (.int i) H) ∨ ∃ k, xs = [.bl k] ∧ Q (.int (if k then 1 else 0)) H) (on1 hInt) := on1_op (by
  intro F H x a d Q r e q
  unfold hInt at e
  split at e
  · cases e
    cases r.int_inv
    exact .inl ⟨_, rfl, q _ fun F => .int _⟩
  · cases e
    cases r.bl_inv
    exact .inr ⟨_, rfl, q _ fun F => .int _⟩
  · cases e)
def hMax2 : D → D → Option D := hI fun i j => some (.int (if j > i then j else i))
def hMin2 : D → D → Option D := hI fun i j => some (.int (if j < i then j else i))
theorem o_max2 : OpL K C (fun xs H Q => ∃ i j, xs = [.int i, .int j] ∧ Q (.int (if j > i then j else i)) H) (on2 hMax2) := on2_op (by
  intro F H x y a b d Q r1 r2 e q
  obtain ⟨i, j, rfl, rfl, h⟩ := hI_inv e
  cases h
  cases r1.int_inv
  cases r2.int_inv
  exact ⟨_, _, rfl, q _ fun F => .int _⟩)
theorem o_min2 : OpL K C (fun xs H Q => ∃ i j, xs = [.int i, .int j] ∧ Q (.int (if j < i then j else i)) H) (on2 hMin2) := on2_op (by
  intro F H x y a b d Q r1 r2 e q
  obtain ⟨i, j, rfl, rfl, h⟩ := hI_inv e
  cases h
  cases r1.int_inv
  cases r2.int_inv
  exact ⟨_, _, rfl, q _ fun F => .int _⟩)
def hGcd : D → D → Option D := hI fun i j => some (.int ((Nat.gcd i.natAbs j.natAbs : Nat) : Int))
def cLcm (i j : Int) : Bool := decide (i.natAbs < 2 ^ 64) && decide (j.natAbs < 2 ^ 64)
def hLcm : D → D → Option D := hI fun i j => if cLcm i j = true then some (.int ((Nat.lcm i.natAbs j.natAbs : Nat) : Int)) else none
theorem o_gcd : OpL K C rGcd (on2 hGcd) := on2_op (by
  intro F H x y a b d Q r1 r2 e q
  obtain ⟨i, j, rfl, rfl, h⟩ := hI_inv e
  cases h
  cases r1.int_inv
  cases r2.int_inv
  exact ⟨_, _, rfl, q _ fun F => .int _⟩)
theorem o_lcm : OpL K C rLcm (on2 hLcm) := on2_op (by
  intro F H x y a b d Q r1 r2 e q
  obtain ⟨i, j, rfl, rfl, h⟩ := hI_inv e
  split at h
  · rename_i c
    unfold cLcm at c
    simp only [Bool.and_eq_true, decide_eq_true_eq] at c
    cases h
    cases r1.int_inv
    cases r2.int_inv
    exact ⟨_, _, rfl, c.1, c.2, q _ fun F => .int _⟩
  · cases h)
/-- whole numbers alone -/
def wholes : List D → Option (List Int)
  | [] => some []
  | .int i :: r => (wholes r).map fun l => i :: l
  | _ :: _ => none
theorem Reps.ints_ {F : Hp} : ∀ {vs : List V} {ds : List D} {ns : List Int}, Reps K C F vs ds → Pl.wholes ds = some ns → vs = ns.map V.int
  | _, _, _, .nil, e => by cases e; rfl
  | _, _, ns, .cons (d := d) (ds := ds) x r, e => by
    cases d with
    | int i =>
      unfold Pl.wholes at e
      cases h : Pl.wholes ds with
      | none => rw [h] at e; cases e
      | some l =>
        rw [h] at e
        cases e
        rw [x.int_inv, r.ints_ h]
        rfl
    | _ => cases e
def D.nums (d : D) : Option (List Int) := d.items.bind wholes
theorem RepP.seq {F H : Hp} {v : V} {d : D} {l : List D} (r : RepP K C F H v d) (e : d.items = some l) : ∃ a vs, v = .ref a ∧ (SqL K H a vs ∨ SqT K H a vs) ∧ Reps K C F vs l := by
  cases d with
  | lst l' => cases e; obtain ⟨a, vs, rfl, h, z⟩ := r; exact ⟨a, vs, rfl, .inl (SqL.of h), z⟩
  | wri l' => cases e; obtain ⟨a, vs, rfl, h, z⟩ := r; exact ⟨a, vs, rfl, .inl h, z⟩
  | tup l' => cases e; obtain ⟨a, vs, rfl, h, z⟩ := r; exact ⟨a, vs, rfl, .inr (SqT.of h), z⟩
  | _ => cases e
theorem RepP.nums {F H : Hp} {v : V} {d : D} {ns : List Int} (r : RepP K C F H v d) (e : d.nums = some ns) : ∃ a, v = .ref a ∧ (SqL K H a (ns.map V.int) ∨ SqT K H a (ns.map V.int)) := by
  unfold D.nums at e
  cases h : d.items with
  | none => rw [h] at e; cases e
  | some l =>
    rw [h] at e
    obtain ⟨a, vs, rfl, s, z⟩ := r.seq h
    rw [z.ints_ e] at s
    exact ⟨a, rfl, s⟩
def hSum (d : D) : Option D := d.nums.map fun ns => .int ns.sum
theorem o_sum : OpL K C (rSumE K) (on1 hSum) := on1_op (by
  intro F H x a d Q r e q
  unfold hSum at e
  cases h : a.nums with
  | none => rw [h] at e; cases e
  | some ns =>
    rw [h] at e
    cases e
    obtain ⟨p, rfl, s⟩ := r.nums h
    exact ⟨p, ns, rfl, s, q _ fun F => .int _⟩)
def maxI : List Int → Int
  | [] => 0
  | [i] => i
  | i :: r => let m := maxI r; if m ≥ i then m else i
def minI : List Int → Int
  | [] => 0
  | [i] => i
  | i :: r => let m := minI r; if m ≤ i then m else i
theorem maxI_cons (i j : Int) (r : List Int) : maxI (i :: j :: r) = if maxI (j :: r) ≥ i then maxI (j :: r) else i := rfl
theorem minI_cons (i j : Int) (r : List Int) : minI (i :: j :: r) = if minI (j :: r) ≤ i then minI (j :: r) else i := rfl
theorem maxI_spec : ∀ l : List Int, 0 < l.length → maxI l ∈ l ∧ ∀ y ∈ l, y ≤ maxI l
  | [], h => absurd h (by decide)
  | [i], _ => ⟨by simp [maxI], fun y hy => by rw [List.mem_singleton.mp hy]; exact Int.le_refl _⟩
  | i :: j :: r, _ => by
    obtain ⟨h1, h2⟩ := maxI_spec (j :: r) (by simp)
    rw [maxI_cons]
    split
    · exact ⟨List.mem_cons_of_mem _ h1, fun y hy => by
        rcases List.mem_cons.mp hy with rfl | hy
        · assumption
        · exact h2 y hy⟩
    · exact ⟨List.mem_cons_self, fun y hy => by
        rcases List.mem_cons.mp hy with rfl | hy
        · exact Int.le_refl _
        · have := h2 y hy; omega⟩
theorem minI_spec : ∀ l : List Int, 0 < l.length → minI l ∈ l ∧ ∀ y ∈ l, minI l ≤ y
  | [], h => absurd h (by decide)
  | [i], _ => ⟨by simp [minI], fun y hy => by rw [List.mem_singleton.mp hy]; exact Int.le_refl _⟩
  | i :: j :: r, _ => by
    obtain ⟨h1, h2⟩ := minI_spec (j :: r) (by simp)
    rw [minI_cons]
    split
    · exact ⟨List.mem_cons_of_mem _ h1, fun y hy => by
        rcases List.mem_cons.mp hy with rfl | hy
        · assumption
        · exact h2 y hy⟩
    · exact ⟨List.mem_cons_self, fun y hy => by
        rcases List.mem_cons.mp hy with rfl | hy
        · exact Int.le_refl _
        · have := h2 y hy; omega⟩
def hMaxL (d : D) : Option D := match d with
  | .lst l => match wholes l with
    | some ns => if 0 < ns.length then some (.int (maxI ns)) else none
    | none => none
  | _ => none
def hMinL (d : D) : Option D := match d with
  | .lst l => match wholes l with
    | some ns => if 0 < ns.length then some (.int (minI ns)) else none
    | none => none
  | _ => none
theorem o_maxL : OpL K C (rMax K) (on1 hMaxL) := on1_op (by
  intro F H x a d Q r e q
  unfold hMaxL at e
  split at e
  · rename_i l
    split at e
    · rename_i ns h
      split at e
      · rename_i n0
        cases e
        obtain ⟨p, vs, rfl, s, z⟩ := r
        rw [z.ints_ h] at s
        obtain ⟨m1, m2⟩ := maxI_spec ns n0
        refine ⟨p, ns, rfl, SqL.of s, n0, fun m hm hy => ?_⟩
        have : m = maxI ns := Int.le_antisymm (m2 m hm) (hy _ m1)
        rw [this]
        exact q _ fun F => .int _
      · cases e
    · cases e
  · cases e)
theorem o_minL : OpL K C (rMin K) (on1 hMinL) := on1_op (by
  intro F H x a d Q r e q
  unfold hMinL at e
  split at e
  · rename_i l
    split at e
    · rename_i ns h
      split at e
      · rename_i n0
        cases e
        obtain ⟨p, vs, rfl, s, z⟩ := r
        rw [z.ints_ h] at s
        obtain ⟨m1, m2⟩ := minI_spec ns n0
        refine ⟨p, ns, rfl, SqL.of s, n0, fun m hm hy => ?_⟩
        have : m = minI ns := Int.le_antisymm (hy _ m1) (m2 m hm)
        rw [this]
        exact q _ fun F => .int _
      · cases e
    · cases e
  · cases e)
/-- list(x), tuple(x) -/
def gListOf : List RV → DE := fun rs ρ => match rs with
  | [r] => match r.items ρ with
    | some l => some (.ok (.own (.lst l)) ρ)
    | none => none
  | _ => none
theorem o_listOf : OpL K C (fun xs H Q => ∃ p ys, xs = [.ref p] ∧ (SqL K H p ys ∨ SqT K H p ys) ∧ ∀ l, H l = none → Q (.ref l) (upd H l (.lst ys))) gListOf := by
  intro B W S F0 H0 ρ σ F H vs rs Q p q g
  unfold gListOf at g
  split at g
  · cases q with
    | cons q1 qt _ =>
    cases qt
    split at g
    · rename_i l e
      obtain ⟨a, ws, rfl, s, z⟩ := q1.items p.st e
      exact ⟨a, ws, rfl, s, fun b n => Goal.newL g p n z⟩
    · exact False.elim g
  · exact False.elim g
def gTupOf : List RV → DE := fun rs ρ => match rs with
  | [r] => match r.see ρ with
    | some (.lst l) => some (.ok (.dat (.tup l)) ρ)
    | some (.tup l) => some (.ok (.dat (.tup l)) ρ)
    | _ => none
  | _ => none
theorem o_tupOf : OpL K C (fun xs H Q => ∃ p ys, xs = [.ref p] ∧ ((SqL K H p ys ∧ ∀ l, H l = none → Q (.ref l) (upd H l (.tup ys))) ∨ (SqT K H p ys ∧ Q (.ref p) H))) gTupOf := by
  intro B W S F0 H0 ρ σ F H vs rs Q p q g
  unfold gTupOf at g
  split at g
  · cases q with
    | cons q1 qt _ =>
    cases qt
    split at g
    · rename_i l e
      obtain ⟨a, ws, rfl, s, z⟩ := q1.parts p.st e
      exact ⟨a, ws, rfl, .inl ⟨SqL.of s, fun b n => Goal.newT g p n z⟩⟩
    · rename_i l e
      have k := q1.keep p.st e fun _ z => by cases z
      obtain ⟨a, ws, rfl, s, z⟩ := q1.parts p.st e
      exact ⟨a, ws, rfl, .inr ⟨SqT.of s, g _ F H p k⟩⟩
    · exact False.elim g
  · exact False.elim g
def hStr : D → Option D
  | .int i => if i.natAbs.log2 < 1920 then some (.str (toString i)) else none
  | _ => none
theorem o_strI : OpL K C (fun xs H Q => ∃ i : Int, xs = [.int i] ∧ i.natAbs.log2 < 1920 ∧ Q (.str (toString i)) H) (on1 hStr) := on1_op (by
  intro F H x a d Q r e q
  unfold hStr at e
  split at e
  · split at e
    · rename_i c
      cases e
      cases r.int_inv
      exact ⟨_, rfl, c, q _ fun F => .str _⟩
    · cases e
  · cases e)
/-- repr(x) -/
def hRepr (d : D) : Option D := if d.isPy && d.py.showable && !d.py.hasDict && decide (d.py.depth ≤ 60) && decide (d.py.shown.length ≤ 10000) then some (.str d.py.shown) else none
theorem o_repr : OpL K C (rRepr K) (on1 hRepr) := by
  intro B W S F0 H0 ρ σ F H vs rs Q p q g
  unfold on1 at g
  split at g
  · cases q with
    | cons q1 qt _ =>
    cases qt
    split at g
    · rename_i a e
      unfold hRepr at g
      split at g
      · rename_i d z
        split at z
        · rename_i c
          simp only [Bool.and_eq_true, decide_eq_true_eq, Bool.not_eq_true'] at c
          cases z
          exact ⟨_, _, rfl, Rep.dp _ _ (RepRV.see q1 p.st e) c.1.1.1.1, c.1.1.1.2, c.1.1.2, c.1.2, Nat.le_trans (Nat.add_le_add_right c.2 64) (by decide), g _ F H p (.str _)⟩
        · cases z
      · exact False.elim g
    · exact False.elim g
  · exact False.elim g

/-! ### isinstance -/
/-- what is known of the own classes -/
structure Kn (K : PySem.W.Frag) (C : Cl) (n : Nat) : Prop where
  cl : ∀ c, c < n → Cls K (C.adr c)
  ha : ∀ c, c < n → PySem.W.findIn K (.ref (C.adr c)) "__class__" = some (some (.builtin "object.__class__"))
  hn : PySem.W.specialIn K (.builtin "object.__class__") "__get__" = some (some (.builtin "getset_descriptor.__get__"))
  ht : PySem.W.takesIn K (.builtin "object.__class__") = some true
  hm : ∀ c, c < n → PySem.W.mroIn K (C.adr c) (.type "object") = some true
def kindD : D → Option String
  | .non => some "NoneType"
  | .bl _ => some "bool"
  | .int _ => some "int"
  | .str _ => some "str"
  | .lst _ => some "list"
  | .wri _ => none
  | .tup _ => some "tuple"
  | _ => none
theorem RepP.kind {F H : Hp} {v : V} {d : D} {n : String} (r : RepP K C F H v d) (e : kindD d = some n) : TyX K H v (.type n) := by
  cases d with
  | non => cases e; cases (show Rep K C F v .non from r); exact .base .non
  | bl b => cases e; cases (show Rep K C F v (.bl b) from r); exact .base (.bl b)
  | int i => cases e; cases (show Rep K C F v (.int i) from r); exact .base (.int i)
  | str x => cases e; cases (show Rep K C F v (.str x) from r); exact .base (.str x)
  | lst l => cases e; obtain ⟨a, vs, rfl, h, _⟩ := r; exact .base (.lst h)
  | tup l =>
    cases e
    obtain ⟨a, vs, rfl, h, _⟩ := r
    exact .base (.tup h)
  | _ => cases e
/-- is a value of kind n one of the built-in class m? -/
def isKind (n m : String) : Bool := decide (n = m) || (decide (n = "bool") && decide (m = "int"))
def hIsi (a b : D) : Option D := match b with
  | .ty m => if decide (m = "int") || decide (m = "bool") || decide (m = "str") || decide (m = "tuple") || decide (m = "list") then (kindD a).map fun n => .bl (isKind n m) else none
  | _ => none
theorem kit_plain {a : D} {n m : String} (e : kindD a = some n) (h : m = "int" ∨ m = "bool" ∨ m = "str" ∨ m = "tuple" ∨ m = "list") : PySem.W.kitOne K (.type n) (.type m) = some (isKind n m) := by
  have hn : n = "NoneType" ∨ n = "bool" ∨ n = "int" ∨ n = "str" ∨ n = "list" ∨ n = "tuple" := by
    cases a <;> simp [kindD] at e <;> subst e <;> simp
  rcases h with rfl | rfl | rfl | rfl | rfl <;> rcases hn with rfl | rfl | rfl | rfl | rfl | rfl <;> exact kit_ty (by decide +kernel)
theorem o_isi : OpL K C (rIsi K) (on2 hIsi) := on2_op (by
  intro F H x y a b d Q r1 r2 e q
  unfold hIsi at e
  split at e
  · rename_i m
    split at e
    · rename_i c
      simp only [Bool.or_eq_true, decide_eq_true_eq, or_assoc] at c
      cases h : kindD a with
      | none => rw [h] at e; cases e
      | some n =>
        rw [h] at e
        cases e
        cases (show Rep K C F y (.ty m) from r2)
        exact ⟨_, _, _, _, _, rfl, .ty m, r1.kind h, kit_plain h c, q _ fun F => .bl _⟩
    · cases e
  · cases e)
def hIsiT (a b : D) : Option D := match b with
  | .tup [.ty m, .ty m'] => if decide (m = "list") && decide (m' = "tuple") then (kindD a).map fun n => .bl (isKind n m || isKind n m') else none
  | _ => none
theorem o_isiT : OpL K C (rIsiT K) (on2 hIsiT) := on2_op (by
  intro F H x y a b d Q r1 r2 e q
  unfold hIsiT at e
  split at e
  · rename_i m m'
    split at e
    · rename_i c
      simp only [Bool.and_eq_true, decide_eq_true_eq] at c
      obtain ⟨rfl, rfl⟩ := c
      cases h : kindD a with
      | none => rw [h] at e; cases e
      | some n =>
        rw [h] at e
        cases e
        obtain ⟨t, vs, rfl, st, z⟩ := r2
        cases z with
        | cons z1 z =>
        cases z with
        | cons z2 z =>
        cases z
        cases z1
        cases z2
        refine ⟨x, t, _, _, [.type "list", .type "tuple"], _, rfl, st, .cons (.ty _) (.cons (.ty _) .nil), r1.kind h, ?_, q _ fun F => .bl _⟩
        have k1 : PySem.W.kitOne K (.type n) (.type "list") = some (isKind n "list") := kit_plain h (by simp)
        have k2 : PySem.W.kitOne K (.type n) (.type "tuple") = some (isKind n "tuple") := kit_plain h (by simp)
        cases h1 : isKind n "list" with
        | true => exact kitAny_cons (b := true) (by rw [k1, h1]) (fun h => by cases h) (fun _ => rfl)
        | false =>
          refine kitAny_cons (b := false) (by rw [k1, h1]) (fun _ => ?_) (fun h => by cases h)
          cases h2 : isKind n "tuple" with
          | true => exact kitAny_cons (b := true) (by rw [k2, h2]) (fun h => by cases h) (fun _ => rfl)
          | false => exact kitAny_cons (b := false) (by rw [k2, h2]) (fun _ => kitAny_nil) (fun h => by cases h)
    · cases e
  · cases e)
end
end Pl
set_option Elab.async false
set_option linter.all false
set_option maxRecDepth 100000
set_option maxHeartbeats 4000000
/-! Statements: what they make of the slots; loops. -/
namespace Pl
open PySem PySem.Spec PyProof.Rows L2 Tk
inductive Out where
  | nx (ρ : Sl) | rt (r : RV) (ρ : Sl) | bk (ρ : Sl) | ct (ρ : Sl) | exc (c : Nat) (fs : List (Str × D)) (ρ : Sl)
abbrev DS := Sl → Option Out
def GoalS (K : PySem.W.Frag) (C : Cl) (B : Bw) (W : WX) (S : Addr → Prop) (F0 H0 : Hp) (E : Ends) : Option Out → Prop
  | some (.nx ρ) => ∀ σ F H, Post K C B S F0 H0 ρ σ F H → E.nx σ H
  | some (.bk ρ) => ∀ σ F H, Post K C B S F0 H0 ρ σ F H → E.bk σ H
  | some (.ct ρ) => ∀ σ F H, Post K C B S F0 H0 ρ σ F H → E.ct σ H
  | some (.rt r ρ) => ∀ v σ F H, Post K C B S F0 H0 ρ σ F H → RepRV K C S H0 ρ F σ H v r → E.rt v H
  | some (.exc c fs ρ) => ∀ dd σ F H, Post K C B S F0 H0 ρ σ F H → ExcAt K C F H dd fs → W (.ref (C.adr c)) dd σ H
  | none => False
def tS (K : PySem.W.Frag) (C : Cl) (B : Bw) (W : WX) (g : DS) : TS := fun E σ H => ∃ ρ F, RepSt K C B ρ F σ H ∧ GoalS K C B W (OwnA ρ σ) F H E (g ρ)
abbrev PDS (X : Cx) (C : Cl) (B : Bw) (W : WX) (st : Stmt) (g : DS) : Prop := PS X st (tS X.K C B W g)
abbrev PDSs (X : Cx) (C : Cl) (B : Bw) (W : WX) (st : List Stmt) (g : DS) : Prop := PSs X st (tS X.K C B W g)
theorem PS.conv {X : Cx} {st : Stmt} {t t' : TS} (h : PS X st t) (c : ∀ E σ H, t' E σ H → t E σ H) : PS X st t' := ⟨fun pins s σ H E I q => h.run pins s σ H E I (c E σ H q)⟩
theorem PSs.conv {X : Cx} {st : List Stmt} {t t' : TS} (h : PSs X st t) (c : ∀ E σ H, t' E σ H → t E σ H) : PSs X st t' := ⟨fun pins s σ H E I q => h.run pins s σ H E I (c E σ H q)⟩
section
variable {K : PySem.W.Frag} {C : Cl} {B : Bw} {W : WX} {S : Addr → Prop} {F0 H0 F1 H1 F H : Hp} {ρ ρ1 : Sl} {σ σ1 : L2.St} {E : Ends}
theorem GoalS.later {o : Option Out} (p : Post K C B S F0 H0 ρ1 σ1 F1 H1) (g : GoalS K C B W S F0 H0 E o) : GoalS K C B W (OwnA ρ1 σ1) F1 H1 E o := by
  cases o with
  | none => exact g
  | some o =>
    cases o with
    | nx ρ => exact fun σ F H q => g σ F H (p.trans q)
    | bk ρ => exact fun σ F H q => g σ F H (p.trans q)
    | ct ρ => exact fun σ F H q => g σ F H (p.trans q)
    | rt r ρ => exact fun v σ F H q rv => g v σ F H (p.trans q) (RepRV.since p rv)
    | exc c fs ρ => exact fun dd σ F H q ex => g dd σ F H (p.trans q) ex
theorem tS_at {g : DS} (p : Post K C B S F0 H0 ρ1 σ1 F1 H1) (q : GoalS K C B W S F0 H0 E (g ρ1)) : tS K C B W g E σ1 H1 := ⟨ρ1, F1, p.st, q.later p⟩
/-- an expression, then what is made of it -/
def bindS {α : Type} (f : Ef α) (k : α → DS) : DS := fun ρ => match f ρ with
  | some (.ok a ρ') => k a ρ'
  | some (.exc c fs ρ') => some (.exc c fs ρ')
  | none => none
theorem tS_bind {α β : Type} {k1 : Kd K C α β} {f : Ef α} {k : α → DS} {Qa : β → Hp → Prop} (p : Post K C B S F0 H0 ρ σ F H) (g : GoalS K C B W S F0 H0 E (bindS f k ρ))
    (h : ∀ r1 ρ1 v F1 H1, GoalS K C B W S F0 H0 E (k r1 ρ1) → Post K C B S F0 H0 ρ1 σ F1 H1 → k1.rep S H0 ρ1 F1 σ H1 v r1 → Qa v H1) : tG k1 B W f σ H Qa := by
  refine ⟨ρ, F, p.st, ?_⟩
  unfold bindS at g
  cases e : f ρ with
  | none => rw [e] at g; exact g
  | some r =>
    rw [e] at g
    cases r with
    | ok r1 ρ1 => exact fun v F1 H1 q rv => h r1 ρ1 v F1 H1 g (p.trans q) (k1.since p rv)
    | exc c fs ρ1 => exact fun dd F1 H1 q ex => g dd σ F1 H1 (p.trans q) ex
end

def nxS : DS := fun ρ => some (.nx ρ)
def seqS (g1 g2 : DS) : DS := fun ρ => match g1 ρ with
  | some (.nx ρ') => g2 ρ'
  | o => o
def sExpr (f : DE) : DS := bindS f fun _ => nxS
def sRet (f : DE) : DS := bindS f fun r ρ => some (.rt r ρ)
def sIf (fc : Ef Bool) (g1 g2 : DS) : DS := bindS fc fun c => if c = true then g1 else g2
/-- the slot i gets r -/
def putR (i np : Nat) (r : RV) : DS := fun ρ => match r with
  | .dat d => some (.nx (ρ.set i (some (.dat d))))
  | .own m => if np ≤ i then some (.nx (ρ.set i (some (.own m)))) else none
  | .bor j => match toDat (.bor j) ρ with
    | some (.ok d ρ') => some (.nx (ρ'.set i (some (.dat d))))
    | _ => none
def sSet (i np : Nat) (f : DE) : DS := bindS f fun r => putR i np r
section
variable {X : Cx} {C : Cl} {B : Bw} {W : WX} {st : Stmt} {sts : List Stmt} {g g1 g2 : DS} {e c : Expr} {f : DE} {fc : Ef Bool} {pos pos' : Pos} {a b : List Stmt}
theorem pds_nil : PDSs X C B W [] nxS := PSs.conv pss_nil fun E σ H ⟨ρ, F, st, q⟩ => q σ F H (Post.start st)
theorem pds_cons (h1 : PDS X C B W st g1) (h2 : PDSs X C B W sts g2) : PDSs X C B W (st :: sts) (seqS g1 g2) := PSs.conv (pss_cons h1 h2) fun E σ H ⟨ρ, F, st, q⟩ => by
  refine ⟨ρ, F, st, ?_⟩
  unfold seqS at q
  cases h : g1 ρ with
  | none => rw [h] at q; exact q
  | some o =>
    rw [h] at q
    cases o with
    | nx ρ' => exact fun σ' F' H' p => tS_at p q
    | bk ρ' => exact q
    | ct ρ' => exact q
    | rt r ρ' => exact q
    | exc c fs ρ' => exact q
theorem pds_one (h1 : PDS X C B W st g1) : PDSs X C B W [st] g1 := PSs.conv (pss_one h1) fun _ _ _ q => q
theorem pds_pass : PDS X C B W (.Pass pos) nxS := PS.conv ps_pass fun E σ H ⟨ρ, F, st, q⟩ => q σ F H (Post.start st)
theorem pds_break : PDS X C B W (.Break pos) (fun ρ => some (.bk ρ)) := PS.conv ps_break fun E σ H ⟨ρ, F, st, q⟩ => q σ F H (Post.start st)
theorem pds_continue : PDS X C B W (.Continue pos) (fun ρ => some (.ct ρ)) := PS.conv ps_continue fun E σ H ⟨ρ, F, st, q⟩ => q σ F H (Post.start st)
theorem pds_expr (he : PD X C B W e f) (hs : swapsWith e none pos.line X.env = pure false := by rfl) : PDS X C B W (.Expr e pos) (sExpr f) := PS.conv (ps_expr he hs) fun E σ H ⟨ρ, F, st, q⟩ => tS_bind (k1 := kR X.K C) (Post.start st) q fun r1 ρ1 v F1 H1 q1 p1 _ => q1 σ F1 H1 p1
theorem pds_ret (he : PD X C B W e f) : PDS X C B W (.Return (some e) pos) (sRet f) := PS.conv (ps_ret he) fun E σ H ⟨ρ, F, st, q⟩ => tS_bind (k1 := kR X.K C) (Post.start st) q fun r1 ρ1 v F1 H1 q1 p1 rv => q1 v σ F1 H1 p1 rv
theorem pds_retN : PDS X C B W (.Return none pos) (fun ρ => some (.rt (.dat .non) ρ)) := PS.conv ps_retN fun E σ H ⟨ρ, F, st, q⟩ => q .non σ F H (Post.start st) .non
theorem pds_if (hc : PDT X C B W c fc) (ha : PDSs X C B W a g1) (hb : PDSs X C B W b g2) : PDS X C B W (.If c a b pos) (sIf fc g1 g2) := PS.conv (ps_if hc ha hb) fun E σ H ⟨ρ, F, st, q⟩ => tS_bind (k1 := kB X.K C) (Post.start st) q fun r1 ρ1 v F1 H1 q1 p1 rv => by
  obtain rfl : v = r1 := rv
  cases v with
  | true => rw [if_pos rfl] at q1 ⊢; exact tS_at p1 q1
  | false => rw [if_neg Bool.false_ne_true] at q1 ⊢; exact tS_at p1 q1
theorem put_run {K : PySem.W.Frag} {S : Addr → Prop} {F0 H0 F H : Hp} {ρ : Sl} {σ : L2.St} {E : Ends} {i np : Nat} {r : RV} {v : V} (hn : B.np = np) (q : GoalS K C B W S F0 H0 E (putR i np r ρ)) (p : Post K C B S F0 H0 ρ σ F H) (rv : RepRV K C S H0 ρ F σ H v r) : E.nx (σ.set i (some v)) H := by
  cases r with
  | dat d => exact q _ F H (p.setD rv)
  | own m =>
    unfold putR at q
    dsimp only at q
    split at q
    · rename_i h
      exact q _ F H (p.setN (by rw [hn]; exact h) rv)
    · exact False.elim q
  | bor j =>
    unfold putR at q
    dsimp only at q
    split at q
    · rename_i d ρ' e
      obtain ⟨F', p', r', _⟩ := p.toDat rv e
      exact q _ F' H (p'.setD r')
    · exact False.elim q
theorem set_run {K : PySem.W.Frag} {i np : Nat} {E : Ends} {σ : L2.St} {H : Hp} (hn : B.np = np) (h : tS K C B W (sSet i np f) E σ H) : tD K C B W f σ H fun x H1 => gName i x σ H1 E.nx := by
  obtain ⟨ρ, F, st, q⟩ := h
  exact tS_bind (k1 := kR K C) (Post.start st) q fun r1 ρ1 v F1 H1 q1 p1 rv => put_run hn q1 p1 rv
theorem pds_set {i np : Nat} {x : Str} (hn : B.np = np) (hN : X.N.Nodup) (hi : X.N[i]? = some x) (hx : Loc X.env.scope x) (he : PD X C B W e f) (hs : swapsWith e (some (.Name x pos')) pos.line X.env = pure false := by rfl) (hf : X.fn x = true ∨ X.env.scope.names.lookup x = some .local := by first | exact .inl rfl | exact .inr rfl | assumption) :
    PDS X C B W (.Assign [.Name x pos'] e pos) (sSet i np f) := PS.conv (ps_set hN hi hx he hs hf) fun E σ H h => set_run hn h
end

/-! ### a, b = x, y -/
def sPar (i j np : Nat) (fl : Ef (List RV)) : DS := bindS fl fun rs => match rs with
  | [r, r'] => seqS (putR i np r) (putR j np r')
  | _ => fun _ => none
section
variable {X : Cx} {C : Cl} {B : Bw} {W : WX}
/-- two values into two slots -/
theorem par_run {K : PySem.W.Frag} {S : Addr → Prop} {F0 H0 F H : Hp} {ρ : Sl} {σ : L2.St} {E : Ends} {i j np : Nat} {r r' : RV} {v w : V} (hn : B.np = np) (hij : i ≠ j) (q : GoalS K C B W S F0 H0 E (seqS (putR i np r) (putR j np r') ρ)) (p : Post K C B S F0 H0 ρ σ F H)
    (nb : ∀ k, r' ≠ .bor k) (nb1 : ∀ k, r ≠ .bor k) (rv : RepRV K C S H0 ρ F σ H v r) (rw' : RepRV K C S H0 ρ F σ H w r') (ne : ∀ m m', r = .own m → r' = .own m' → w ≠ v) : E.nx ((σ.set i (some v)).set j (some w)) H := by
  unfold seqS at q
  have fin : ∀ ρ1 F1, putR i np r ρ = some (.nx ρ1) → Post K C B S F0 H0 ρ1 (σ.set i (some v)) F1 H → RepRV K C S H0 ρ1 F1 (σ.set i (some v)) H w r' → E.nx ((σ.set i (some v)).set j (some w)) H := by
    intro ρ1 F1 e p1 r1
    rw [e] at q
    exact put_run hn q p1 r1
  cases r with
  | bor k => exact (nb1 k rfl).elim
  | dat d =>
    refine fin _ F rfl (p.setD rv) ?_
    cases r' with
    | bor k => exact (nb k rfl).elim
    | dat d' => exact rw'
    | own m' =>
      obtain ⟨a, e, n, rm, no, s⟩ := rw'
      refine ⟨a, e, n, rm, ?_, s⟩
      rintro ⟨l, m, h1, h2⟩
      by_cases hl : l = i
      · subst hl
        by_cases hlen : l < ρ.length
        · rw [List.getElem?_set_self hlen] at h1; cases h1
        · rw [List.getElem?_eq_none (by rw [List.length_set]; omega)] at h1; cases h1
      · rw [List.getElem?_set_ne (Ne.symm hl)] at h1 h2
        exact no ⟨l, m, h1, h2⟩
  | own m =>
    have hp : np ≤ i := by
      unfold putR at q
      dsimp only at q
      by_cases h : np ≤ i
      · exact h
      · rw [if_neg h] at q; exact False.elim q
    refine fin (ρ.set i (some (.own m))) F (by unfold putR; exact if_pos hp) (p.setN (by rw [hn]; exact hp) rv) ?_
    cases r' with
    | bor k => exact (nb k rfl).elim
    | dat d' => exact rw'
    | own m' =>
      obtain ⟨a, e, n, rm, no, s⟩ := rw'
      refine ⟨a, e, n, rm, ?_, s⟩
      rintro ⟨l, m1, h1, h2⟩
      by_cases hl : l = i
      · subst hl
        have h2 : (σ.set l (some v))[l]? = some (some (.ref a)) := h2
        by_cases hlen : l < σ.length
        · rw [List.getElem?_set_self hlen] at h2
          cases h2
          exact ne m m' rfl rfl e
        · rw [List.getElem?_eq_none (by rw [List.length_set]; omega)] at h2; cases h2
      · rw [List.getElem?_set_ne (Ne.symm hl)] at h1 h2
        exact no ⟨l, m1, h1, h2⟩
def noBor : RV → Bool
  | .bor _ => false
  | _ => true
def sPar2 (i j np : Nat) (fl : Ef (List RV)) : DS := bindS fl fun rs => match rs with
  | [r, r'] => if noBor r && noBor r' then seqS (putR i np r) (putR j np r') else fun _ => none
  | _ => fun _ => none
theorem pds_par {i j np : Nat} {x y : Str} {a b : Expr} {fl : Ef (List RV)} {px py pt pos : Pos} {kt k2 pt2} (hn : B.np = np) (hc : X.calm = true) (hN : X.N.Nodup) (hi : X.N[i]? = some x) (hj : X.N[j]? = some y) (hij : i ≠ j)
    (hx : X.env.scope.names.lookup x = some .local) (hy : X.env.scope.names.lookup y = some .local) (ha : PDA X C B W [a, b] fl)
    (hw : swappedStores [.Tuple [.Name x px, .Name y py] kt pt] (.Tuple [a, b] k2 pt2) X.env = pure (some [x, y]))
    (hs : swapsWithSole [.Tuple [.Name x px, .Name y py] kt pt] (.Tuple [a, b] k2 pt2) pos.line X.env = pure false := by rfl) :
    PDS X C B W (.Assign [.Tuple [.Name x px, .Name y py] kt pt] (.Tuple [a, b] k2 pt2) pos) (sPar2 i j np fl) := PS.conv (ps_par hc hN hi hj hij hx hy ha hw hs) fun E σ H ⟨ρ, F, st, q⟩ => tS_bind (k1 := kL X.K C) (Post.start st) q fun rs ρ1 vs F1 H1 q1 p1 rv => by
  split at q1
  · rename_i r r'
    split at q1
    · rename_i c
      have rv : RepRVs X.K C _ _ ρ1 F1 σ H1 vs [r, r'] := rv
      cases rv with
      | cons x1 t n1 =>
      cases t with
      | cons x2 t n2 =>
      cases t
      simp only [Bool.and_eq_true] at c
      refine ⟨_, _, rfl, par_run hn hij q1 p1 (fun k z => by subst z; cases c.2) (fun k z => by subst z; cases c.1) x1 x2 fun m m' e e' z => ?_⟩
      subst e'
      exact n1 m e 0 m' rfl (by rw [← z]; rfl)
    · exact False.elim q1
  · exact False.elim q1
end

/-! ### targets -/
/-- into the slots js: h tells the slots behind -/
def tGt (K : PySem.W.Frag) (C : Cl) (B : Bw) (js : List Nat) (h : D → Sl → Option Sl) : TG := fun v σ H Q => ∃ ρ F d ρ', RepSt K C B ρ F σ H ∧ Rep K C F v d ∧ h d ρ = some ρ' ∧
  ∀ σ', (∀ vs : List Nat, (∀ j ∈ js, j ∈ vs) → wipe σ' vs = wipe σ vs) → Post K C B (OwnA ρ σ) F H ρ' σ' F H → Q σ' H
abbrev PDG (X : Cx) (C : Cl) (B : Bw) (js : List Nat) (e : Expr) (h : D → Sl → Option Sl) : Prop := PG X e (tGt X.K C B js h)
theorem PG.conv {X : Cx} {e : Expr} {t t' : TG} (h : PG X e t) (c : ∀ v σ H Q, t' v σ H Q → t v σ H Q) : PG X e t' := ⟨fun pins s σ H v u Q I r q => h.run pins s σ H v u Q I r (c v σ H Q q)⟩
theorem wipe_set {σ : L2.St} {j : Nat} {x : Option V} : ∀ {vs : List Nat}, j ∈ vs → wipe (σ.set j x) vs = wipe σ vs
  | v :: vs, h => by
    show (wipe (σ.set j x) vs).set v none = (wipe σ vs).set v none
    by_cases hv : j ∈ vs
    · rw [wipe_set hv]
    · obtain rfl : j = v := by
        rcases List.mem_cons.mp h with z | z
        · exact z
        · exact (hv z).elim
      have go : ∀ vs : List Nat, j ∉ vs → (wipe (σ.set j x) vs).set j none = (wipe σ vs).set j none := by
        intro vs
        induction vs with
        | nil => intro _; show (σ.set j x).set j none = σ.set j none; rw [List.set_set]
        | cons u us ih =>
          intro hn
          have hu : u ≠ j := fun z => hn (by rw [z]; exact List.mem_cons_self)
          show ((wipe (σ.set j x) us).set u none).set j none = ((wipe σ us).set u none).set j none
          rw [List.set_comm _ _ hu, List.set_comm _ _ hu, ih fun z => hn (List.mem_cons_of_mem _ z)]
      exact go vs hv
def tgN (i : Nat) : D → Sl → Option Sl := fun d ρ => some (ρ.set i (some (.dat d)))
def setDs : List Nat → List D → Sl → Option Sl
  | [], [], ρ => some ρ
  | j :: js, d :: ds, ρ => setDs js ds (ρ.set j (some (.dat d)))
  | _, _, _ => none
def tgT (js : List Nat) : D → Sl → Option Sl := fun d ρ => match d with
  | .tup ds => setDs js ds ρ
  | _ => none
/-- the names of a pattern, from the left -/
def tGs (K : PySem.W.Frag) (C : Cl) (B : Bw) (js : List Nat) : TGs := fun vs σ H Q => ∃ ρ F ds ρ', RepSt K C B ρ F σ H ∧ Reps K C F vs ds ∧ setDs js ds ρ = some ρ' ∧
  ∀ σ', (∀ ws : List Nat, (∀ j ∈ js, j ∈ ws) → wipe σ' ws = wipe σ ws) → Post K C B (OwnA ρ σ) F H ρ' σ' F H → Q σ' H
theorem PGs.conv {X : Cx} {es : List Expr} {t t' : TGs} (h : PGs X es t) (c : ∀ v σ H Q, t' v σ H Q → t v σ H Q) : PGs X es t' := ⟨fun pins s σ H vs us Q I r q => h.run pins s σ H vs us Q I r (c vs σ H Q q)⟩
section
variable {X : Cx} {C : Cl} {B : Bw} {W : WX} {pos : Pos}
theorem pdg_name {i : Nat} {x : Str} (h : PG X (.Name x pos) (gName i)) : PDG X C B [i] (.Name x pos) (tgN i) := PG.conv h fun v σ H Q ⟨ρ, F, d, ρ', st, r, e, q⟩ => by
  cases e
  exact q _ (fun vs hv => wipe_set (hv i List.mem_cons_self)) ((Post.start st).setD r)
theorem pdgs_nil : PGs X [] (tGs X.K C B []) := PGs.conv pgs_nil fun vs σ H Q ⟨ρ, F, ds, ρ', st, r, e, q⟩ => by
  cases r with
  | nil =>
    cases e
    exact ⟨rfl, q σ (fun _ _ => rfl) (Post.start st)⟩
  | cons _ _ => cases e
theorem pdgs_cons {i : Nat} {js : List Nat} {x : Str} {es : List Expr} (h : PG X (.Name x pos) (gName i)) (t : PGs X es (tGs X.K C B js)) (hz : (assignEach (.Name x pos :: es) X.env).map (·.2) = assign (.Name x pos) X.env :: (assignEach es X.env).map (·.2) := by rfl) : PGs X (.Name x pos :: es) (tGs X.K C B (i :: js)) := PGs.conv (pgs_cons h t hz) fun vs σ H Q ⟨ρ, F, ds, ρ', st, r, e, q⟩ => by
  cases r with
  | nil => cases e
  | @cons v0 vs0 d ds x r =>
    have p := (Post.start st).setD (i := i) x
    refine ⟨_, _, rfl, ρ.set i (some (.dat d)), F, ds, ρ', p.st, r, e, fun σ' w p' => q σ' (fun ws hw => ?_) (p.trans p')⟩
    rw [w ws fun j hj => hw j (List.mem_cons_of_mem _ hj), wipe_set (hw i List.mem_cons_self)]
theorem setDs_len : ∀ {js : List Nat} {ds : List D} {ρ ρ' : Sl}, setDs js ds ρ = some ρ' → ds.length = js.length
  | [], [], _, _, _ => rfl
  | _ :: _, _ :: _, _, _, e => congrArg Nat.succ (setDs_len e)
  | [], _ :: _, _, _, e => by cases e
  | _ :: _, [], _, _, e => by cases e
theorem pdg_tup {es : List Expr} {k : Nat} {js : List Nat} (hc : X.calm = true) (h : PGs X es (tGs X.K C B js)) (hn : (assignEach es X.env).length = js.length := by rfl) (hst : (assignEach es X.env).findIdx? (·.1) = none := by rfl) : PDG X C B js (.Tuple es k pos) (tgT js) := PG.conv (pg_tup hc h hn hst) fun v σ H Q ⟨ρ, F, d, ρ', st, r, e, q⟩ => by
  unfold tgT at e
  split at e
  · rename_i ds
    cases r with
    | tup er rr => exact ⟨_, _, rfl, SqT.of (st.sub _ _ er), by rw [rr.length]; exact setDs_len e, ρ, F, ds, ρ', st, rr, e, q⟩
  · cases e
/-- target = value -/
def sAsg (h : D → Sl → Option Sl) (f : DE) : DS := bindS (froze f) fun r ρ => match r with
  | .dat d => match h d ρ with
    | some ρ' => some (.nx ρ')
    | none => none
  | _ => none
theorem pds_asg {tg e : Expr} {f : DE} {js : List Nat} {h : D → Sl → Option Sl} (he : PD X C B W e f) (hg : PDG X C B js tg h) (hs : swapsWithSole [tg] e pos.line X.env = pure false := by rfl) (hw : swappedStores [tg] e X.env = pure none := by rfl)
    (h1 : (assignEach [tg] X.env).map (·.2) = [assign tg X.env] := by rfl) : PDS X C B W (.Assign [tg] e pos) (sAsg h f) := PS.conv (ps_asg (pd_frz he) hg hs hw h1) fun E σ H ⟨ρ, F, st, q⟩ => tS_bind (k1 := kR X.K C) (Post.start st) q fun r1 ρ1 v F1 H1 q1 p1 rv => by
  try dsimp only at q1
  split at q1
  · rename_i d
    split at q1
    · rename_i ρ' e
      exact ⟨ρ1, F1, d, ρ', p1.st, rv, e, fun σ' _ p' => q1 σ' F1 H1 (p1.trans p')⟩
    · exact False.elim q1
  · exact False.elim q1
end

/-! ### what is walked -/
structure Grow (F1 H1 F2 H2 : Hp) : Prop where
  mono : Same F1 F2
  sub : Same F2 H2
  keep : Same H1 H2
  new : ∀ b o, F2 b = some o → F1 b = some o ∨ H1 b = none
def WalkD (K : PySem.W.Frag) (C : Cl) (F1 H1 : Hp) (J : It) (ds : List D) : Prop := ∃ (G : Hp → Prop) (Y : Nat → Hp → V → Hp → Prop), Walk J ds.length G Y ∧ (∀ Fa Ha, Same F1 Fa → Same Fa Ha → G Ha) ∧
  ∀ i Fa Ha v Hb, Same F1 Fa → Same Fa Ha → Y i Ha v Hb → ∃ Fb d, ds[i]? = some d ∧ Rep K C Fb v d ∧ Grow Fa Ha Fb Hb
def kI (K : PySem.W.Frag) (C : Cl) : Kd K C (List D) It := ⟨fun _ _ _ F _ H J ds => WalkD K C F H J ds, fun _ h => h⟩
abbrev PDI (X : Cx) (C : Cl) (B : Bw) (W : WX) (tg iter : Expr) (f : Ef (List D)) : Prop := PI X tg iter (tG (kI X.K C) B W f)
theorem PI.conv {X : Cx} {tg iter : Expr} {t t' : TI} (h : PI X tg iter t) (c : ∀ σ H R, t' σ H R → t σ H R) : PI X tg iter t' := ⟨fun pins s σ H R I q => h.run pins s σ H R I (c σ H R q)⟩
section
variable {K : PySem.W.Frag} {C : Cl} {B : Bw} {W : WX} {S : Addr → Prop} {F0 H0 F1 H1 F2 H2 F H : Hp} {ρ ρ1 : Sl} {σ σ1 : L2.St} {E : Ends}
theorem Post.grow (p : Post K C B S F0 H0 ρ σ F1 H1) (g : Grow F1 H1 F2 H2) : Post K C B S F0 H0 ρ σ F2 H2 := by
  refine ⟨p.mono.trans g.mono, fun b o e s => g.keep b o (p.frame b o e s), fun b o e => ?_, ⟨p.st.len, g.sub, fun i d e => ?_, fun i m e => ?_, p.st.sep, p.st.fix⟩, p.low⟩
  · rcases g.new b o e with h | h
    · exact p.new b o h
    · exact .inr (p.there h).symm
  · obtain ⟨v, e1, r⟩ := p.st.dat i d e
    exact ⟨v, e1, r.to g.mono⟩
  · obtain ⟨a, e1, n, r⟩ := p.st.own i m e
    obtain ⟨o, ho⟩ := r.there
    refine ⟨a, e1, ?_, r.to g.mono ((g.keep a o ho).trans ho.symm)⟩
    cases z : F2 a with
    | none => rfl
    | some u =>
      rcases g.new a u z with h | h
      · rw [n] at h; cases h
      · rw [ho] at h; cases h
theorem Grow.refl (s : Same F H) : Grow F H F H := ⟨Same.refl _, s, Same.refl _, fun _ _ e => .inl e⟩
theorem Grow.pair {x y : V} {dx dy : D} {T : Addr} (s : Same F H) (n : H T = none) (rx : Rep K C F x dx) (ry : Rep K C F y dy) : ∃ Fb, Rep K C Fb (.ref T) (.tup [dx, dy]) ∧ Grow F H Fb (upd H T (.tup [x, y])) := by
  have nF := s.free n
  have sF : Same F (upd F T (.tup [x, y])) := fun b u e => by rw [upd_ne (ne_of_none e nF)]; exact e
  refine ⟨upd F T (.tup [x, y]), .tup upd_same (.cons (rx.to sF) (.cons (ry.to sF) .nil)), sF, fun b u e => ?_, fun b u e => by rw [upd_ne (ne_of_none e n)]; exact e, fun b u e => ?_⟩
  · by_cases h : b = T
    · subst h
      rw [upd_same] at e ⊢
      exact e
    · rw [upd_ne h] at e ⊢
      exact s b u e
  · by_cases h : b = T
    · subst h
      exact .inr n
    · rw [upd_ne h] at e
      exact .inl e
end
/-- the items of what is walked: it stays as it is from then on -/
def dItems (f : DE) : Ef (List D) := bindE (froze f) fun r ρ => match r with
  | .dat (.lst l) => some (.ok l ρ)
  | .dat (.tup l) => some (.ok l ρ)
  | _ => none
def enumL (l : List D) : List D := (List.range l.length).zipWith (fun (i : Nat) (d : D) => D.tup [.int (i : Int), d]) l
def dEnum (f : DE) : Ef (List D) := bindE (dItems f) fun l => retE (enumL l)
def rangeL (lo : Int) (n : Nat) : List D := (List.range n).map fun (i : Nat) => D.int (lo + i)
def dRange1 (f : DE) : Ef (List D) := bindE f fun r ρ => match r.see ρ with
  | some (.int j) => if j.natAbs ≤ 100000 then some (.ok (rangeL 0 j.toNat) ρ) else none
  | _ => none
def dRange2 (f f' : DE) : Ef (List D) := bindE f fun r => bindE f' fun r' ρ => match r.see ρ, r'.see ρ with
  | some (.int i), some (.int j) => if i.natAbs ≤ 100000 ∧ j.natAbs ≤ 100000 then some (.ok (rangeL i (j - i).toNat) ρ) else none
  | _, _ => none
section
variable {X : Cx} {C : Cl} {B : Bw} {W : WX} {tg e e' : Expr} {f f' : DE} {p pos tpos : Pos}
/-- a list or a tuple among the data -/
theorem seq_walk {K : PySem.W.Frag} {F1 H1 : Hp} {a : Addr} {vs : List V} {l : List D} (o : HO) (hF : F1 a = some o) (s : Same F1 H1) (r : Reps K C F1 vs l) (J : It) (w : Walk J vs.length (At H1 a) (YAt vs)) : WalkD K C F1 H1 J l := by
  refine ⟨At H1 a, YAt vs, by rw [← r.length]; exact w, fun Fa Ha s1 s2 u hu => ?_, fun i Fa Ha v Hb s1 s2 y => ?_⟩
  · rw [s a o hF] at hu
    cases hu
    exact s2 _ _ (s1 _ _ hF)
  · obtain ⟨rfl, hv⟩ := y
    obtain ⟨d, hd, rd⟩ := r.get hv
    exact ⟨Fa, d, hd, rd.to s1, Grow.refl s2⟩
theorem enum_walk {K : PySem.W.Frag} {F1 H1 : Hp} {a : Addr} {vs : List V} {l : List D} (o : HO) (hF : F1 a = some o) (s : Same F1 H1) (r : Reps K C F1 vs l) (J : It) (w : Walk J vs.length (At H1 a) (YPair (fun i => some (.int (i : Nat))) (fun i => vs[i]?))) : WalkD K C F1 H1 J (enumL l) := by
  have len : (enumL l).length = l.length := by unfold enumL; simp
  refine ⟨At H1 a, _, by rw [len, ← r.length]; exact w, fun Fa Ha s1 s2 u hu => ?_, fun i Fa Ha v Hb s1 s2 y => ?_⟩
  · rw [s a o hF] at hu
    cases hu
    exact s2 _ _ (s1 _ _ hF)
  · obtain ⟨T, x, z, rfl, nT, rfl, hx, hz⟩ := y
    cases hx
    obtain ⟨d, hd, rd⟩ := r.get hz
    obtain ⟨Fb, rb, g⟩ := Grow.pair s2 nT (Rep.int (i : Nat)) (rd.to s1)
    refine ⟨Fb, _, ?_, rb, g⟩
    unfold enumL
    rw [List.getElem?_zipWith, hd]
    have : i < l.length := (List.getElem?_eq_some_iff.mp hd).1
    simp [this]
theorem range_walk {K : PySem.W.Frag} {F1 H1 : Hp} {lo : Int} {n : Nat} : WalkD K C F1 H1 (Itr lo n) (rangeL lo n) := by
  have len : (rangeL lo n).length = n := by unfold rangeL; simp
  refine ⟨fun H => True ∧ True, fun i H x H' => i < n ∧ H' = H ∧ x = .int (lo + i), ?_, fun _ _ _ _ => ⟨trivial, trivial⟩, fun i Fa Ha v Hb s1 s2 y => ?_⟩
  · rw [len]
    exact ⟨fun i _ hi _ => hi, fun _ _ => Nat.le_refl _, fun i _ _ _ hi _ y => ⟨hi, y⟩⟩
  · obtain ⟨hi, rfl, rfl⟩ := y
    refine ⟨Fa, .int (lo + i), ?_, .int _, Grow.refl s2⟩
    unfold rangeL
    simp [hi]
theorem items_run {K : PySem.W.Frag} {σ : L2.St} {H : Hp} {R : It → Hp → Prop} {t : TE} (run : ∀ σ H Q, tD K C B W (froze f) σ H Q → t σ H Q) (h : tG (kI K C) B W (dItems f) σ H R) : t σ H fun x H1 => ∃ a xs, x = .ref a ∧ SqE K H1 a xs ∧ ∀ J, Walk J xs.length (At H1 a) (YAt xs) → R J H1 := by
  obtain ⟨ρ, F, st, g⟩ := h
  refine run _ _ _ (tG_bind (k1 := kR K C) (Post.start st) g fun r1 ρ1 v F1 H1 g1 p1 _ q1 => ?_)
  try dsimp only at g1
  split at g1
  · rename_i l
    cases q1 with
    | lst e r => exact ⟨_, _, rfl, .inl (SqL.of (p1.st.sub _ _ e)), fun J w => g1 J F1 H1 p1 (seq_walk _ e p1.st.sub r J w)⟩
  · rename_i l
    cases q1 with
    | tup e r => exact ⟨_, _, rfl, .inr (SqT.of (p1.st.sub _ _ e)), fun J w => g1 J F1 H1 p1 (seq_walk _ e p1.st.sub r J w)⟩
  · exact False.elim g1
theorem pdi_seq (h : PD X C B W e f) : PDI X C B W tg e (dItems f) := PI.conv (pi_seq (pd_frz h)) fun σ H R q => items_run (fun _ _ _ z => z) q
theorem pdi_enum {elts : List Expr} {kk : Nat} (hg : Gl X "enumerate") (hm : X.mg "enumerate" = none) (h : PD X C B W e f) (hs : starEach [e] X.env = [(false, eval e X.env)] := by rfl) (he : starEach [e] X.env = (false, eval e X.env) :: starEach [] X.env := by rfl) : PDI X C B W (.Tuple elts kk tpos) (.Call (.Name "enumerate" p) [e] [] pos) (dEnum f) :=
  PI.conv (pi_enumS hg hm (pa_cons (pd_frz h) pa_nil he) hs) fun σ H R ⟨ρ, F, st, g⟩ => by
    have g' : GoalA (kI X.K C) B W (OwnA ρ σ) F H σ R (bindE (froze f) (fun r ρ => match r with | .dat (.lst l) => some (.ok (enumL l) ρ) | .dat (.tup l) => some (.ok (enumL l) ρ) | _ => none) ρ) := by
      have e : dEnum f ρ = bindE (froze f) (fun r ρ => match r with | .dat (.lst l) => some (.ok (enumL l) ρ) | .dat (.tup l) => some (.ok (enumL l) ρ) | _ => none) ρ := by
        unfold dEnum dItems bindE
        cases froze f ρ with
        | none => rfl
        | some o =>
          cases o with
          | exc c fs ρ' => rfl
          | ok r ρ' =>
            cases r with
            | dat d => cases d <;> rfl
            | own m => rfl
            | bor i => rfl
      rw [← e]
      exact g
    refine tG_bind (k1 := kR X.K C) (Post.start st) g' fun r1 ρ1 v F1 H1 g1 p1 _ q1 => ?_
    show ∃ a xs, [v] = [V.ref a] ∧ _
    try dsimp only at g1
    split at g1
    · rename_i l
      cases q1 with
      | lst e r => exact ⟨_, _, rfl, .inl (SqL.of (p1.st.sub _ _ e)), fun J w => g1 J F1 H1 p1 (enum_walk _ e p1.st.sub r J w)⟩
    · rename_i l
      cases q1 with
      | tup e r => exact ⟨_, _, rfl, .inr (SqT.of (p1.st.sub _ _ e)), fun J w => g1 J F1 H1 p1 (enum_walk _ e p1.st.sub r J w)⟩
    · exact False.elim g1
theorem pdi_range1 (hg : Gl X "range") (hm : X.mg "range" = none) (h : PD X C B W e f) (hs : starEach [e] X.env = [(false, eval e X.env)] := by rfl) (he : starEach [e] X.env = (false, eval e X.env) :: starEach [] X.env := by rfl) : PDI X C B W tg (.Call (.Name "range" p) [e] [] pos) (dRange1 f) :=
  PI.conv (pi_range1 hg hm (pa_cons h pa_nil he) hs) fun σ H R ⟨ρ, F, st, g⟩ => tG_bind (k1 := kR X.K C) (Post.start st) g fun r1 ρ1 v F1 H1 g1 p1 _ q1 => by
    show ∃ j : Int, [v] = [V.int j] ∧ _
    try dsimp only at g1
    split at g1
    · rename_i j e
      split at g1
      · rename_i c
        rw [(RepRV.see q1 p1.st e).int_inv]
        exact ⟨j, rfl, by omega, by omega, g1 _ F1 H1 p1 (range_walk (H1 := H1))⟩
      · exact False.elim g1
    · exact False.elim g1
theorem pdi_range2 (hg : Gl X "range") (hm : X.mg "range" = none) (h : PD X C B W e f) (h' : PD X C B W e' f') (hs : starEach [e, e'] X.env = [(false, eval e X.env), (false, eval e' X.env)] := by rfl) (hs2 : starEach [e'] X.env = [(false, eval e' X.env)] := by rfl) (he : starEach [e, e'] X.env = (false, eval e X.env) :: starEach [e'] X.env := by rfl) (he' : starEach [e'] X.env = (false, eval e' X.env) :: starEach [] X.env := by rfl) : PDI X C B W tg (.Call (.Name "range" p) [e, e'] [] pos) (dRange2 f f') :=
  PI.conv (pi_range2 hg hm (pa_cons h (pa_cons h' pa_nil he') he) hs hs2) fun σ H R ⟨ρ, F, st, g⟩ => tG_bind (k1 := kR X.K C) (Post.start st) g fun r1 ρ1 v F1 H1 g1 p1 _ q1 => tG_bind (k1 := kR X.K C) p1 g1 fun r2 ρ2 w F2 H2 g2 p2 s2 q2 => by
    show ∃ i j : Int, [v, w] = [V.int i, V.int j] ∧ _
    try dsimp only at g2
    split at g2
    · rename_i i j e1 e2
      split at g2
      · rename_i c
        have q1' := RepRV.carry q1 s2
        rw [(RepRV.see q1' p2.st e1).int_inv, (RepRV.see q2 p2.st e2).int_inv]
        exact ⟨i, j, rfl, ⟨by omega, by omega, by omega, by omega⟩, g2 _ F2 H2 p2 (range_walk (H1 := H2))⟩
      · exact False.elim g2
    · exact False.elim g2
end

/-! ### for, while -/
def loopS (tg : D → Sl → Option Sl) (body : DS) : List D → DS
  | [], ρ => some (.nx ρ)
  | d :: r, ρ => match tg d ρ with
    | none => none
    | some ρ1 => match body ρ1 with
      | some (.nx ρ2) => loopS tg body r ρ2
      | some (.ct ρ2) => loopS tg body r ρ2
      | some (.bk ρ2) => some (.nx ρ2)
      | o => o
def sFor (fi : Ef (List D)) (tg : D → Sl → Option Sl) (body : DS) : DS := bindS fi fun ds => loopS tg body ds
def loopW (test : Ef Bool) (body : DS) : Nat → DS
  | 0, _ => none
  | n + 1, ρ => match test ρ with
    | some (.ok true ρ1) => match body ρ1 with
      | some (.nx ρ2) => loopW test body n ρ2
      | some (.ct ρ2) => loopW test body n ρ2
      | some (.bk ρ2) => some (.nx ρ2)
      | o => o
    | some (.ok false ρ1) => some (.nx ρ1)
    | some (.exc c fs ρ1) => some (.exc c fs ρ1)
    | none => none
def sWhile (μ : Sl → Nat) (test : Ef Bool) (body : DS) : DS := fun ρ => loopW test body (μ ρ) ρ
section
variable {X : Cx} {C : Cl} {B : Bw} {W : WX} {tg iter c : Expr} {body : List Stmt} {fi : Ef (List D)} {h : D → Sl → Option Sl} {g : DS} {pos : Pos} {js : List Nat} {test : Ef Bool}
theorem pds_for (hp : PassesOwn (model X.prog X.w) X.A X.env X.xe) (hc : X.calm = true) (hi : PDI X C B W tg iter fi) (hg : PDG X C B js tg h) (hb : PDSs X C B W body g)
    (hs : ∀ x, foldedSetIterable iter X.env x = pure x := by intro _; rfl) : PDS X C B W (.For tg iter body [] pos) (sFor fi h g) := PS.conv (ps_for hp hc hi hg hb hs) fun E σ H ⟨ρ, F, st, q⟩ => tS_bind (k1 := kI X.K C) (Post.start st) q fun ds ρ1 J F1 H1 q1 p1 wk => by
  obtain ⟨G, Y, w, hG, hY⟩ := wk
  refine ⟨fun i m σ' H' => m = ds.length - i ∧ i ≤ ds.length ∧ ∃ ρ' F', Post X.K C B (OwnA ρ σ) F H ρ' σ' F' H' ∧ Same F1 F' ∧ GoalS X.K C B W (OwnA ρ σ) F H E (loopS h g (ds.drop i) ρ'), ⟨ds.length, by simp, Nat.zero_le _, ρ1, F1, p1, Same.refl _, q1⟩, ?_⟩
  rintro i m σ' H' ⟨rfl, hi, ρ', F', p', s', q'⟩
  have gg := hG F' H' s' p'.st.sub
  by_cases lt : i < ds.length
  · refine .inr ⟨w.goes i H' lt gg, fun σ2 H2 => ∃ ρ2 F2, Post X.K C B (OwnA ρ σ) F H ρ2 σ2 F2 H2 ∧ Same F1 F2 ∧ GoalS X.K C B W (OwnA ρ σ) F H E (loopS h g (ds.drop (i + 1)) ρ2), fun σ2 H2 ⟨ρ2, F2, p2, s2, q2⟩ => ⟨ds.length - (i + 1), by omega, rfl, lt, ρ2, F2, p2, s2, q2⟩, fun x Hb y => ?_⟩
    obtain ⟨Fb, d, hd, rd, gr⟩ := hY i F' H' x Hb s' p'.st.sub (w.yields i H' x Hb lt gg y)
    have pb := p'.grow gr
    have ed : ds.drop i = d :: ds.drop (i + 1) := by
      rw [List.drop_eq_getElem_cons lt]
      congr 1
      rw [List.getElem?_eq_getElem lt] at hd
      exact Option.some.inj hd
    rw [ed] at q'
    unfold loopS at q'
    cases e : h d ρ' with
    | none => rw [e] at q'; exact False.elim q'
    | some ρ2 =>
      rw [e] at q'
      dsimp only at q'
      refine ⟨ρ', Fb, d, ρ2, pb.st, rd, e, fun σ2 _ p2 => ?_⟩
      have pc := pb.trans p2
      refine ⟨ρ2, Fb, pc.st, ?_⟩
      have sb : Same F1 Fb := s'.trans gr.mono
      cases eb : g ρ2 with
      | none => rw [eb] at q'; exact False.elim q'
      | some o =>
        rw [eb] at q'
        cases o with
        | nx ρ3 => exact fun σ3 F3 H3 p3 => ⟨ρ3, F3, pc.trans p3, sb.trans p3.mono, q'⟩
        | ct ρ3 => exact fun σ3 F3 H3 p3 => ⟨ρ3, F3, pc.trans p3, sb.trans p3.mono, q'⟩
        | bk ρ3 => exact fun σ3 F3 H3 p3 => q' σ3 F3 H3 (pc.trans p3)
        | rt r ρ3 => exact fun v σ3 F3 H3 p3 rv => q' v σ3 F3 H3 (pc.trans p3) (RepRV.since pc rv)
        | exc c fs ρ3 => exact fun dd σ3 F3 H3 p3 ex => q' dd σ3 F3 H3 (pc.trans p3) ex
  · have e : i = ds.length := by omega
    subst e
    rw [List.drop_length] at q'
    exact .inl ⟨w.stops H' gg, q' σ' F' H' p'⟩
theorem pds_while (μ : Sl → Nat) (hp : PassesOwn (model X.prog X.w) X.A X.env X.xe) (hc : PDT X C B W c test) (hb : PDSs X C B W body g) : PDS X C B W (.While c body [] pos) (sWhile μ test g) := PS.conv (ps_while hp hc hb) fun E σ H ⟨ρ, F, st, q⟩ => by
  refine ⟨fun m σ' H' => ∃ ρ' F', Post X.K C B (OwnA ρ σ) F H ρ' σ' F' H' ∧ GoalS X.K C B W (OwnA ρ σ) F H E (loopW test g m ρ'), ⟨μ ρ, ρ, F, Post.start st, q⟩, ?_⟩
  rintro m σ' H' ⟨ρ', F', p', q'⟩
  refine ⟨ρ', F', p'.st, ?_⟩
  cases m with
  | zero => exact False.elim q'
  | succ n =>
    unfold loopW at q'
    cases et : test ρ' with
    | none => rw [et] at q'; exact False.elim q'
    | some o =>
      rw [et] at q'
      cases o with
      | exc c fs ρ2 => exact fun dd F2 H2 p2 ex => q' dd σ' F2 H2 (p'.trans p2) ex
      | ok b ρ2 =>
        intro b' F2 H2 p2 e
        obtain rfl : b' = b := e
        have p3 := p'.trans p2
        cases b' with
        | false => rw [if_neg Bool.false_ne_true]; exact q' σ' F2 H2 p3
        | true =>
          rw [if_pos rfl]
          dsimp only at q'
          refine ⟨fun σ3 H3 => ∃ ρ3 F3, Post X.K C B (OwnA ρ σ) F H ρ3 σ3 F3 H3 ∧ GoalS X.K C B W (OwnA ρ σ) F H E (loopW test g n ρ3), fun σ3 H3 w => ⟨n, Nat.lt_succ_self _, w⟩, ρ2, F2, p3.st, ?_⟩
          cases eb : g ρ2 with
          | none => rw [eb] at q'; exact False.elim q'
          | some o =>
            rw [eb] at q'
            cases o with
            | nx ρ3 => exact fun σ3 F3 H3 p4 => ⟨ρ3, F3, p3.trans p4, q'⟩
            | ct ρ3 => exact fun σ3 F3 H3 p4 => ⟨ρ3, F3, p3.trans p4, q'⟩
            | bk ρ3 => exact fun σ3 F3 H3 p4 => q' σ3 F3 H3 (p3.trans p4)
            | rt r ρ3 => exact fun v σ3 F3 H3 p4 rv => q' v σ3 F3 H3 (p3.trans p4) (RepRV.since p3 rv)
            | exc c fs ρ3 => exact fun dd σ3 F3 H3 p4 ex => q' dd σ3 F3 H3 (p3.trans p4) ex
end
end Pl
set_option Elab.async false
set_option linter.all false
set_option maxRecDepth 100000
set_option maxHeartbeats 4000000
/-! Methods of lists, stores, comprehensions. -/
namespace Pl
open PySem PySem.Spec PyProof.Rows L2 Tk

/-! ### o.m(..) of a built-in class -/
def OpM (K : PySem.W.Frag) (C : Cl) (r : V → List V → Hp → VK → Prop) (g : RV → List RV → DE) : Prop := ∀ (B : Bw) (W : WX) (S : Addr → Prop) (F0 H0 : Hp) (ρ : Sl) (σ : L2.St) (F H : Hp) (x : V) (vs : List V) (r0 : RV) (rs : List RV) (Q : VK),
  Post K C B S F0 H0 ρ σ F H → RepRV K C S H0 ρ F σ H x r0 → RepRVs K C S H0 ρ F σ H vs rs → Goal K C B W S F0 H0 σ Q (g r0 rs ρ) → r x vs H Q
def tyOk (T : String) : D → Bool
  | .lst _ => decide (T = "list")
  | .str _ => decide (T = "str")
  | _ => false
def dMeth (T : String) (g : RV → List RV → DE) (fo : DE) (fl : Ef (List RV)) : DE := bindE fo fun r ρ => match r.see ρ with
  | some d => if tyOk T d = true then bindE fl (fun rs => g r rs) ρ else none
  | none => none
theorem RepP.ty {K : PySem.W.Frag} {C : Cl} {F H : Hp} {v : V} {d : D} {T : String} (r : RepP K C F H v d) (h : tyOk T d = true) : tyV K T v H := by
  cases d with
  | lst l => obtain ⟨a, vs, rfl, e, _⟩ := r; exact .inl ⟨of_decide_eq_true h, vs, SqL.of e⟩
  | str z => cases (show Rep K C F v (.str z) from r); exact (show T = "str" from of_decide_eq_true h)
  | _ => cases h
section
variable {X : Cx} {C : Cl} {B : Bw} {W : WX} {o e : Expr} {es : List Expr} {fo : DE} {fl : Ef (List RV)} {name : Str} {apos cpos : Pos} {T id : String} {r : V → List V → Hp → VK → Prop} {g : RV → List RV → DE}
theorem pd_bm (pa : PlainAttrs T) (slot : Slot T name id) (hty : typeOf (.builtin id) = pure (.type "method_descriptor")) (hm : MtR X id r) (og : OpM X.K C r g) (ho : PD X C B W o fo) (ha : PDA X C B W (e :: es) fl)
    (hbase : attributeBase o name X.env (eval o X.env) = eval o X.env := by rfl)
    (hfew : ((backTo cpos (starEach (e :: es) X.env)).all (fun x => !x.1) && (backToKw cpos (keywordEach [] X.env)).all (fun x => x.1.isSome)
      && decide ((e :: es).length + ([] : List Keyword).length + (if ([] : List Keyword).isEmpty then 0 else 1) < 30)) = true := by rfl)
    (hline : (apos.endLine == cpos.line) = true := by rfl) (hs : starEach (e :: es) X.env = (false, eval e X.env) :: starEach es X.env := by rfl) (hplain : (backTo cpos (starEach es X.env)).any (·.1) = false := by rfl) :
    PD X C B W (.Call (.Attribute o name apos) (e :: es) [] cpos) (dMeth T g fo fl) := PE.conv (pe_bm pa slot hty hm ho ha hbase hfew hline hs hplain) fun σ H Q ⟨ρ, F, st, g0⟩ => tG_bind (k1 := kR X.K C) (Post.start st) g0 fun r1 ρ1 x F1 H1 g1 p1 _ q1 => by
  try dsimp only at g1
  split at g1
  · rename_i d ed
    split at g1
    · rename_i ok
      refine ⟨(RepRV.parts q1 p1.st ed).ty ok, ?_⟩
      exact tG_bind (k1 := kL X.K C) p1 g1 fun rs ρ2 vs F2 H2 g2 p2 s2 q2 => og B W _ _ _ ρ2 σ F2 H2 x vs r1 rs Q p2 (RepRV.carry q1 s2) q2 g2
    · exact False.elim g1
  · exact False.elim g1
theorem pd_bm0 (pa : PlainAttrs T) (slot : Slot T name id) (hty : typeOf (.builtin id) = pure (.type "method_descriptor")) (hm : MtR X id r) (og : OpM X.K C r g) (ho : PD X C B W o fo)
    (hbase : attributeBase o name X.env (eval o X.env) = eval o X.env := by rfl) (hline : (apos.endLine == cpos.line) = true := by rfl) :
    PD X C B W (.Call (.Attribute o name apos) [] [] cpos) (dMeth T g fo dNil) := PE.conv (pe_bm0 pa slot hty hm ho hbase hline) fun σ H Q ⟨ρ, F, st, g0⟩ => tG_bind (k1 := kR X.K C) (Post.start st) g0 fun r1 ρ1 x F1 H1 g1 p1 _ q1 => by
  try dsimp only at g1
  split at g1
  · rename_i d ed
    split at g1
    · rename_i ok
      exact ⟨(RepRV.parts q1 p1.st ed).ty ok, og B W _ _ _ ρ1 σ F1 H1 x [] r1 [] Q p1 q1 .nil g1⟩
    · exact False.elim g1
  · exact False.elim g1
end
/-- the list of slot i that may change -/
def ownL (r : RV) (ρ : Sl) : Option (Nat × List D) := match r with
  | .bor i => match ρ[i]? with
    | some (some (.own (.lst l))) => some (i, l)
    | _ => none
  | _ => none
section
variable {K : PySem.W.Frag} {C : Cl} {B : Bw} {S : Addr → Prop} {F0 H0 F H : Hp} {ρ : Sl} {σ : L2.St}
theorem ownL_run {r : RV} {x : V} {i : Nat} {l : List D} (e : ownL r ρ = some (i, l)) (p : Post K C B S F0 H0 ρ σ F H) (q : RepRV K C S H0 ρ F σ H x r) : ∃ a vs, x = .ref a ∧ H a = some (.lst vs) ∧ Reps K C F vs l ∧ ρ[i]? = some (some (.own (.lst l))) ∧ σ[i]? = some (some (.ref a)) := by
  unfold ownL at e
  split at e
  · rename_i j
    split at e
    · rename_i l' h
      cases e
      obtain ⟨a, e1, _, vs, ha, z⟩ := p.st.own i _ h
      have q : σ[i]? = some (some x) := q
      rw [q] at e1
      cases e1
      exact ⟨a, vs, rfl, ha, z, h, q⟩
    · cases e
  · cases e
theorem Post.setL {i : Nat} {l l' : List D} {a : Addr} {vs : List V} (p : Post K C B S F0 H0 ρ σ F H) (h : ρ[i]? = some (some (.own (.lst l)))) (s : σ[i]? = some (some (.ref a))) (z : Reps K C F vs l') : Post K C B S F0 H0 (ρ.set i (some (.own (.lst l')))) σ F (upd H a (.lst vs)) :=
  p.write h s ⟨vs, upd_same, z⟩
def gAppend (r : RV) (rs : List RV) : DE := fun ρ => match ownL r ρ, rs with
  | some (i, l), [.dat d] => if l.length < 10000 then some (.ok (.dat .non) (ρ.set i (some (.own (.lst (l ++ [d])))))) else none
  | _, _ => none
theorem o_append : OpM K C rAppend gAppend := by
  intro B W S F0 H0 ρ σ F H x vs r0 rs Q p q0 qs g
  unfold gAppend at g
  split at g
  · rename_i i l d e
    split at g
    · rename_i c
      obtain ⟨a, ws, rfl, ha, z, h1, h2⟩ := ownL_run e p q0
      cases qs with
      | cons q1 qt _ =>
      cases qt
      refine ⟨a, ws, _, rfl, rfl, ha, by rw [z.length]; exact line10000' c, ?_⟩
      exact g _ F _ (p.setL h1 h2 (z.snoc q1)) .non
    · exact False.elim g
  · exact False.elim g
def gExtend (r : RV) (rs : List RV) : DE := fun ρ => match ownL r ρ, rs with
  | some (i, l), [r'] => match r'.see ρ with
    | some (.lst l') => if l.length + l'.length ≤ 10000 then some (.ok (.dat .non) (ρ.set i (some (.own (.lst (l ++ l')))))) else none
    | _ => none
  | _, _ => none
theorem o_extend : OpM K C rExtend gExtend := by
  intro B W S F0 H0 ρ σ F H x vs r0 rs Q p q0 qs g
  unfold gExtend at g
  split at g
  · rename_i i l r' e
    split at g
    · rename_i l' e'
      split at g
      · rename_i c
        obtain ⟨a, ws, rfl, ha, z, h1, h2⟩ := ownL_run e p q0
        cases qs with
        | cons q1 qt _ =>
        cases qt
        obtain ⟨b, us, rfl, hb, z'⟩ := q1.parts p.st e'
        refine ⟨a, b, ws, us, rfl, rfl, ha, hb, by rw [z.length, z'.length]; exact line10000 c, ?_⟩
        exact g _ F _ (p.setL h1 h2 (z.append z')) .non
      · exact False.elim g
    · exact False.elim g
  · exact False.elim g
theorem Reps.eraseIdx : ∀ {vs : List V} {ds : List D} (n : Nat), Reps K C F vs ds → Reps K C F (vs.eraseIdx n) (ds.eraseIdx n)
  | _, _, _, .nil => .nil
  | _, _, 0, .cons _ r => r
  | _, _, n + 1, .cons x r => .cons x (r.eraseIdx n)
theorem Reps.dropLast : ∀ {vs : List V} {ds : List D}, Reps K C F vs ds → Reps K C F vs.dropLast ds.dropLast
  | _, _, .nil => .nil
  | _, _, .cons _ .nil => .nil
  | _, _, .cons x (.cons y r) => .cons x (Reps.dropLast (.cons y r))
def gPop (r : RV) (rs : List RV) : DE := fun ρ => match ownL r ρ, rs with
  | some (i, l), [] => match l[l.length - 1]? with
    | some d => some (.ok (.dat d) (ρ.set i (some (.own (.lst l.dropLast)))))
    | none => none
  | _, _ => none
theorem o_pop : OpM K C rPop gPop := by
  intro B W S F0 H0 ρ σ F H x vs r0 rs Q p q0 qs g
  unfold gPop at g
  split at g
  · rename_i i l e
    split at g
    · rename_i d hd
      obtain ⟨a, ws, rfl, ha, z, h1, h2⟩ := ownL_run e p q0
      cases qs
      obtain ⟨v, hv, rv⟩ := z.at hd
      exact ⟨a, ws, v, rfl, rfl, ha, by rw [z.length]; exact hv, g _ F _ (p.setL h1 h2 z.dropLast) rv⟩
    · exact False.elim g
  · exact False.elim g
def gPopAt (r : RV) (rs : List RV) : DE := fun ρ => match ownL r ρ, rs with
  | some (i, l), [r'] => match r'.see ρ with
    | some (.int k) => if k.natAbs ≤ 100000 then match seqIndex? k l.length with
      | some j => match l[j]? with
        | some d => some (.ok (.dat d) (ρ.set i (some (.own (.lst (l.eraseIdx j))))))
        | none => none
      | none => none
      else none
    | _ => none
  | _, _ => none
theorem o_popAt : OpM K C rPopAt gPopAt := by
  intro B W S F0 H0 ρ σ F H x vs r0 rs Q p q0 qs g
  unfold gPopAt at g
  split at g
  · rename_i i l r' e
    split at g
    · rename_i k ek
      split at g
      · rename_i c
        split at g
        · rename_i j hj
          split at g
          · rename_i d hd
            obtain ⟨a, ws, rfl, ha, z, h1, h2⟩ := ownL_run e p q0
            cases qs with
            | cons q1 qt _ =>
            cases qt
            obtain ⟨v, hv, rv⟩ := z.at hd
            rw [(q1.see p.st ek).int_inv]
            exact ⟨a, ws, k, j, v, rfl, rfl, ha, by omega, by omega, by rw [z.length]; exact hj, hv, g _ F _ (p.setL h1 h2 (z.eraseIdx j)) rv⟩
          · exact False.elim g
        · exact False.elim g
      · exact False.elim g
    · exact False.elim g
  · exact False.elim g
end

/-! ### xs[i] = e -/
def sStore (f fo fi : DE) : DS := bindS (froze f) fun rv => bindS fo fun ro => bindS fi fun ri ρ => match rv, ownL ro ρ, ri.see ρ with
  | .dat d, some (i, l), some (.int k) => match ixN l.length k with
    | some j => some (.nx (ρ.set i (some (.own (.lst (l.set j d))))))
    | none => none
  | _, _, _ => none
section
variable {X : Cx} {C : Cl} {B : Bw} {W : WX} {o i e : Expr} {f fo fi : DE} {pos pos' : Pos}
/-- two more steps within a statement -/
theorem tS_bindR {K : PySem.W.Frag} {S : Addr → Prop} {F0 H0 F H : Hp} {ρ : Sl} {σ : L2.St} {E : Ends} {α β : Type} {k1 : Kd K C α β} {f : Ef α} {k : α → DS} {Qa : β → Hp → Prop} (p : Post K C B S F0 H0 ρ σ F H) (g : GoalS K C B W S F0 H0 E (bindS f k ρ))
    (h : ∀ r1 ρ1 v F1 H1, GoalS K C B W S F0 H0 E (k r1 ρ1) → Post K C B S F0 H0 ρ1 σ F1 H1 → Post K C B (OwnA ρ σ) F H ρ1 σ F1 H1 → k1.rep S H0 ρ1 F1 σ H1 v r1 → Qa v H1) : tG k1 B W f σ H Qa := by
  refine ⟨ρ, F, p.st, ?_⟩
  unfold bindS at g
  cases e : f ρ with
  | none => rw [e] at g; exact g
  | some r =>
    rw [e] at g
    cases r with
    | ok r1 ρ1 => exact fun v F1 H1 q rv => h r1 ρ1 v F1 H1 g (p.trans q) q (k1.since p rv)
    | exc c fs ρ1 => exact fun dd F1 H1 q ex => g dd σ F1 H1 (p.trans q) ex
theorem pds_store (he : PD X C B W e f) (ho : PD X C B W o fo) (hi : PD X C B W i fi)
    (ha : ∀ v, assign (.Subscript o i pos) X.env v = (do
      let ov ← holding [v] (eval o X.env)
      let iv ← holding [v, ov] (eval i X.env)
      standAt pos
      holding [v, ov, iv] (setItem ov iv v)
      release [v, ov, iv] []) := by intro _; rfl)
    (hs : swapsWithSole [.Subscript o i pos] e pos'.line X.env = pure false := by rfl) (hw : swappedStores [.Subscript o i pos] e X.env = pure none := by rfl)
    (h1 : (assignEach [.Subscript o i pos] X.env).map (·.2) = [assign (.Subscript o i pos) X.env] := by rfl) : PDS X C B W (.Assign [.Subscript o i pos] e pos') (sStore f fo fi) :=
  PS.conv (ps_asg (pd_frz he) (pg_sub ho hi set_list ha) hs hw h1) fun E σ H ⟨ρ, F, st, q⟩ => tS_bind (k1 := kR X.K C) (Post.start st) q fun r1 ρ1 v F1 H1 q1 p1 rv => tS_bindR (k1 := kR X.K C) p1 q1 fun r2 ρ2 x F2 H2 q2 p2 s2 rx => tS_bindR (k1 := kR X.K C) p2 q2 fun r3 ρ3 y F3 H3 q3 p3 s3 ry => by
    split at q3
    · rename_i d i' l k eo ei
      split at q3
      · rename_i j hj
        have rv : RepRV X.K C (OwnA ρ σ) H ρ1 F1 σ H1 v (.dat d) := rv
        have rv3 := (rv.carry s2).carry s3
        obtain ⟨a, ws, rfl, h1, z, h2, h3⟩ := ownL_run eo p3 (RepRV.carry rx s3)
        rw [(RepRV.see ry p3.st ei).int_inv]
        refine ⟨a, ws, k, j, rfl, rfl, h1, by rw [z.length]; exact hj, ?_⟩
        exact q3 σ F3 _ (p3.setL h2 h3 (z.set j rv3))
      · exact False.elim q3
    · exact False.elim q3
end

/-! ### comprehensions -/
def wipeR (ρ : Sl) : List Nat → Sl
  | [] => ρ
  | v :: vs => (wipeR ρ vs).set v none
def loopC (vs : List Nat) (tg : D → Sl → Option Sl) (ft : Ef Bool) (fe : DE) : List D → List D → DE
  | [], acc, ρ => some (.ok (.own (.lst acc)) ρ)
  | d :: r, acc, ρ => match tg d ρ with
    | none => none
    | some ρ1 => match ft ρ1 with
      | some (.ok true ρ2) => match fe ρ2 with
        | some (.ok (.dat e) ρ3) => if acc.length < 10000 then loopC vs tg ft fe r (acc ++ [e]) (wipeR ρ3 vs) else none
        | _ => none
      | some (.ok false ρ2) => loopC vs tg ft fe r acc (wipeR ρ2 vs)
      | _ => none
def dLc (vs : List Nat) (fi : Ef (List D)) (tg : D → Sl → Option Sl) (ft : Ef Bool) (fe : DE) : DE := bindE fi fun ds ρ => loopC vs tg ft (froze fe) ds [] (wipeR ρ vs)
def yesT : Ef Bool := retE true
section
variable {K : PySem.W.Frag} {C : Cl} {B : Bw} {W : WX} {S : Addr → Prop} {F0 H0 F H : Hp} {ρ : Sl} {σ : L2.St}
theorem wipeR_some {ρ : Sl} {i : Nat} {x : SV} : ∀ {vs : List Nat}, (wipeR ρ vs)[i]? = some (some x) → ρ[i]? = some (some x) ∧ i ∉ vs
  | [], h => ⟨h, by simp⟩
  | v :: vs, h => by
    unfold wipeR at h
    by_cases hi : v = i
    · subst hi
      by_cases hv : v < (wipeR ρ vs).length
      · rw [List.getElem?_set_self hv] at h; cases h
      · rw [List.getElem?_eq_none (by rw [List.length_set]; omega)] at h; cases h
    · rw [List.getElem?_set_ne hi] at h
      obtain ⟨h1, h2⟩ := wipeR_some h
      exact ⟨h1, by simp only [List.mem_cons, not_or]; exact ⟨fun e => hi e.symm, h2⟩⟩
theorem wipeR_length (ρ : Sl) : ∀ vs : List Nat, (wipeR ρ vs).length = ρ.length
  | [] => rfl
  | v :: vs => by unfold wipeR; rw [List.length_set, wipeR_length ρ vs]
theorem wipe_out {σ : L2.St} {i : Nat} : ∀ {vs : List Nat}, i ∉ vs → (wipe σ vs)[i]? = σ[i]?
  | [], _ => rfl
  | v :: vs, h => by
    unfold wipe
    rw [List.getElem?_set_ne fun e => h (by rw [e]; exact List.mem_cons_self)]
    exact wipe_out fun z => h (List.mem_cons_of_mem _ z)
/-- the slots vs forgotten: any slots that agree elsewhere will do -/
theorem Post.wiped {vs : List Nat} {σ' : L2.St} (p : Post K C B S F0 H0 ρ σ F H) (hl : σ'.length = σ.length) (h : ∀ i, i ∉ vs → σ'[i]? = σ[i]?) : Post K C B S F0 H0 (wipeR ρ vs) σ' F H := by
  refine ⟨p.mono, p.frame, p.new, ⟨by rw [wipeR_length, hl]; exact p.st.len, p.st.sub, fun i d e => ?_, fun i m e => ?_, fun i j a m m' e1 e2 e3 e4 => ?_, fun i m e1 e2 => ?_⟩, ?_⟩
  · obtain ⟨e, n⟩ := wipeR_some e
    rw [h i n]
    exact p.st.dat i d e
  · obtain ⟨e, n⟩ := wipeR_some e
    rw [h i n]
    exact p.st.own i m e
  · obtain ⟨e1, n1⟩ := wipeR_some e1
    obtain ⟨e2, n2⟩ := wipeR_some e2
    rw [h i n1] at e3
    rw [h j n2] at e4
    exact p.st.sep i j a m m' e1 e2 e3 e4
  · obtain ⟨e2, n⟩ := wipeR_some e2
    rw [h i n]
    exact p.st.fix i m e1 e2
  · rintro a ⟨i, m, e1, e2⟩
    obtain ⟨e1, n⟩ := wipeR_some e1
    rw [h i n] at e2
    exact p.low a ⟨i, m, e1, e2⟩
/-- a new thing that no slot holds is changed -/
theorem Post.poke (p : Post K C B S F0 H0 ρ σ F H) {a : Addr} {o : HO} (n0 : S a ∨ H0 a = none) (nF : F a = none) (no : ¬ OwnA ρ σ a) : Post K C B S F0 H0 ρ σ F (upd H a o) := by
  refine ⟨p.mono, fun b u e s => ?_, p.new, ⟨p.st.len, fun b u e => ?_, p.st.dat, fun i m e => ?_, p.st.sep, p.st.fix⟩, p.low⟩
  · have ne : b ≠ a := by
      rintro rfl
      rcases n0 with z | z
      · exact s z
      · rw [e] at z; cases z
    rw [upd_ne ne]
    exact p.frame b u e s
  · rw [upd_ne (ne_of_none e nF)]
    exact p.st.sub b u e
  · obtain ⟨b, e1, n, r⟩ := p.st.own i m e
    have ne : b ≠ a := fun z => no ⟨i, m, e, z ▸ e1⟩
    exact ⟨b, e1, n, r.to (Same.refl _) (upd_ne ne)⟩
/-- what a comprehension asks, from what it makes -/
theorem lc_run {fi : Ef (List D)} {h : D → Sl → Option Sl} {ft : Ef Bool} {fe : DE} {vs js : List Nat} (hj : ∀ j ∈ js, j ∈ vs) {σ : L2.St} {H : Hp} {Q : VK} (q : tD K C B W (dLc vs fi h ft fe) σ H Q) :
    tLc (tG (kI K C) B W fi) (tGt K C B js h) (tT K C B (fun _ _ _ _ => False) ft) (tD K C B (fun _ _ _ _ => False) (froze fe)) vs σ H Q := by
  obtain ⟨ρ, F, st, q⟩ := q
  refine tG_bind (k1 := kI K C) (Post.start st) q fun ds ρ1 J F1 H1 q1 p1 _ wk => fun D nD => ?_
  obtain ⟨G, Y, w, hG, hY⟩ := wk
  have nF1 : F1 D = none := p1.st.sub.free nD
  have n0 : OwnA ρ σ D ∨ H D = none := p1.there nD
  have wl : (wipe σ vs).length = σ.length := wipe_length σ vs
  -- the invariant
  refine ⟨fun i m H' => m = ds.length - i ∧ i ≤ ds.length ∧ ∃ ρ' F' acc xs, Post K C B (OwnA ρ σ) F H ρ' (wipe σ vs) F' H' ∧ Same F1 F' ∧ F' D = none ∧ ¬ OwnA ρ' (wipe σ vs) D ∧ H' D = some (.lst xs) ∧ Reps K C F' xs acc ∧ (∀ i ∈ vs, ∀ x, ρ'[i]? ≠ some (some x)) ∧
    GoalA (kR K C) B W (OwnA ρ σ) F H σ Q (loopC vs h ft (froze fe) (ds.drop i) acc ρ'), ⟨ds.length, by simp, Nat.zero_le _, wipeR ρ1 vs, F1, [], [], ?_, Same.refl _, nF1, ?_, upd_same, .nil, ?_, q1⟩, ?_⟩
  · exact (p1.newO nD _).wiped wl fun i n => wipe_out n
  · rintro ⟨i, m, e1, e2⟩
    obtain ⟨e1, n⟩ := wipeR_some e1
    rw [wipe_out n] at e2
    exact p1.notOwn nD ⟨i, m, e1, e2⟩
  · intro i hi x e
    exact (wipeR_some e).2 hi
  rintro i m H' ⟨rfl, hi, ρ', F', acc, xs, p', s', nD', no', hD', rp', free', q'⟩
  have gg := hG F' H' s' p'.st.sub
  by_cases lt : i < ds.length
  · refine .inr ⟨w.goes i H' lt gg, fun H2 => ∃ ρ2 F2 acc xs, Post K C B (OwnA ρ σ) F H ρ2 (wipe σ vs) F2 H2 ∧ Same F1 F2 ∧ F2 D = none ∧ ¬ OwnA ρ2 (wipe σ vs) D ∧ H2 D = some (.lst xs) ∧ Reps K C F2 xs acc ∧ (∀ i ∈ vs, ∀ x, ρ2[i]? ≠ some (some x)) ∧
      GoalA (kR K C) B W (OwnA ρ σ) F H σ Q (loopC vs h ft (froze fe) (ds.drop (i + 1)) acc ρ2), fun H2 z => ⟨ds.length - (i + 1), by omega, rfl, lt, z⟩, fun x Hb y => ?_⟩
    obtain ⟨Fb, d, hd, rd, gr⟩ := hY i F' H' x Hb s' p'.st.sub (w.yields i H' x Hb lt gg y)
    have pb := p'.grow gr
    have ed : ds.drop i = d :: ds.drop (i + 1) := by
      rw [List.drop_eq_getElem_cons lt]
      congr 1
      rw [List.getElem?_eq_getElem lt] at hd
      exact Option.some.inj hd
    rw [ed] at q'
    unfold loopC at q'
    have hDb : Hb D = some (.lst xs) := gr.keep _ _ hD'
    have nDb : Fb D = none := by
      cases z : Fb D with
      | none => rfl
      | some u =>
        rcases gr.new D u z with h | h
        · rw [nD'] at h; cases h
        · rw [hD'] at h; cases h
    cases e : h d ρ' with
    | none => rw [e] at q'; exact False.elim q'
    | some ρ2 =>
      rw [e] at q'
      dsimp only at q'
      refine ⟨ρ', Fb, d, ρ2, pb.st, rd, e, fun σ2 wp p2 => ⟨(wp vs hj).trans (by
        have idem : ∀ (s : L2.St) (l : List Nat), (∀ i ∈ l, ∀ v, s[i]? ≠ some (some v)) → wipe s l = s := by
          intro s l
          induction l with
          | nil => intro _; rfl
          | cons u us ih =>
            intro hn
            show (wipe s us).set u none = s
            rw [ih fun i hi => hn i (List.mem_cons_of_mem _ hi)]
            have hu := hn u List.mem_cons_self
            apply List.ext_getElem?
            intro k
            by_cases hk : u = k
            · subst hk
              by_cases hl : u < s.length
              · rw [List.getElem?_set_self hl]
                cases z : s[u]? with
                | none => rw [List.getElem?_eq_none_iff] at z; omega
                | some o =>
                  cases o with
                  | none => rfl
                  | some v => exact (hu v z).elim
              · rw [List.getElem?_eq_none (by rw [List.length_set]; omega), List.getElem?_eq_none (by omega)]
            · rw [List.getElem?_set_ne hk]
        exact idem _ _ fun i hi v z => (wipe_some z).2 hi), ?_⟩⟩
      have pc := pb.trans p2
      -- D through the steps of the block
      have noc : ¬ OwnA ρ2 σ2 D := fun z => by
        rcases p2.low D z with u | u
        · exact no' u
        · rw [hDb] at u; cases u
      have thru : ∀ {ρ3 : Sl} {F3 H3 : Hp}, Post K C B (OwnA ρ2 σ2) Fb Hb ρ3 σ2 F3 H3 → H3 D = some (.lst xs) ∧ F3 D = none ∧ ¬ OwnA ρ3 σ2 D := by
        intro ρ3 F3 H3 p3
        refine ⟨p3.frame D _ hDb noc, ?_, fun z => ?_⟩
        · cases z : F3 D with
          | none => rfl
          | some u =>
            rcases p3.new D u z with h | h | h
            · rw [nDb] at h; cases h
            · rw [hDb] at h; cases h
            · exact (noc h).elim
        · rcases p3.low D z with u | u
          · exact noc u
          · rw [hDb] at u; cases u
      have len2 : σ2.length = σ.length := by
        have := congrArg List.length (wp vs hj)
        rw [wipe_length, wipe_length, wl] at this
        exact this
      have out2 : ∀ i, i ∉ vs → (wipe σ vs)[i]? = σ2[i]? := fun i n => by
        have := congrArg (fun l : L2.St => l[i]?) (wp vs hj)
        try dsimp only at this
        rw [wipe_out n, wipe_out n] at this
        exact this.symm
      have back : ∀ {ρ3 : Sl} {F3 H3 : Hp}, Post K C B (OwnA ρ σ) F H ρ3 σ2 F3 H3 → Post K C B (OwnA ρ σ) F H (wipeR ρ3 vs) (wipe σ vs) F3 H3 := fun p3 => p3.wiped (by rw [wl, len2]) out2
      have backNo : ∀ {ρ3 : Sl}, ¬ OwnA ρ3 σ2 D → ¬ OwnA (wipeR ρ3 vs) (wipe σ vs) D := by
        rintro ρ3 n ⟨k, m, e1, e2⟩
        obtain ⟨e1, nk⟩ := wipeR_some e1
        rw [out2 k nk] at e2
        exact n ⟨k, m, e1, e2⟩
      have pcs := pc.st
      refine ⟨ρ2, Fb, pcs, ?_⟩
      cases et : ft ρ2 with
      | none => rw [et] at q'; exact False.elim q'
      | some o =>
        rw [et] at q'
        cases o with
        | exc c fs ρ3 => exact False.elim q'
        | ok b ρ3 =>
          intro b' F3 H3 p3 eb
          obtain rfl : b' = b := eb
          have p3s := Post.start pcs |>.trans p3
          obtain ⟨hD3, nD3, no3⟩ := thru p3
          have pd := pc.trans p3
          cases b' with
          | false =>
            rw [if_neg Bool.false_ne_true]
            exact ⟨wipeR ρ3 vs, F3, acc, xs, back pd, (s'.trans gr.mono).trans p3.mono, nD3, backNo no3, hD3, (rp'.to gr.mono).to p3.mono, fun i hi x e => (wipeR_some e).2 hi, q'⟩
          | true =>
            rw [if_pos rfl]
            dsimp only at q'
            refine ⟨ρ3, F3, pd.st, ?_⟩
            cases ee : froze fe ρ3 with
            | none => rw [ee] at q'; exact False.elim q'
            | some o =>
              rw [ee] at q'
              cases o with
              | exc c fs ρ4 => exact False.elim q'
              | ok r ρ4 =>
                cases r with
                | own m => exact False.elim q'
                | bor k => exact False.elim q'
                | dat dz =>
                  dsimp only at q'
                  intro y F4 H4 p4 ry
                  split at q'
                  · rename_i la
                    obtain ⟨hD4, nD4, no4⟩ := thru (p3.trans p4)
                    have pe := pd.trans p4
                    have sF : Same F' F4 := (gr.mono.trans p3.mono).trans p4.mono
                    refine ⟨xs, hD4, by rw [rp'.length]; exact line10000' la, wipeR ρ4 vs, F4, acc ++ [dz], xs ++ [y], ?_, s'.trans sF, nD4, backNo no4, upd_same, (rp'.to sF).snoc ry, fun i hi x e => (wipeR_some e).2 hi, q'⟩
                    exact (back pe).poke n0 nD4 (backNo no4)
                  · exact False.elim q'
  · have e : i = ds.length := by omega
    subst e
    rw [List.drop_length] at q'
    refine .inl ⟨w.stops H' gg, ?_⟩
    have pf : Post K C B (OwnA ρ σ) F H (wipeR ρ' vs) σ F' H' := p'.wiped wl.symm fun i n => (wipe_out n).symm
    have er : wipeR ρ' vs = ρ' := by
      have idem : ∀ (l : List Nat), (∀ i ∈ l, ∀ x, ρ'[i]? ≠ some (some x)) → wipeR ρ' l = ρ' := by
        intro l
        induction l with
        | nil => intro _; rfl
        | cons u us ih =>
          intro hn
          show (wipeR ρ' us).set u none = ρ'
          rw [ih fun i hi => hn i (List.mem_cons_of_mem _ hi)]
          have hu := hn u List.mem_cons_self
          apply List.ext_getElem?
          intro k
          by_cases hk : u = k
          · subst hk
            by_cases hl : u < ρ'.length
            · rw [List.getElem?_set_self hl]
              cases z : ρ'[u]? with
              | none => rw [List.getElem?_eq_none_iff] at z; omega
              | some o =>
                cases o with
                | none => rfl
                | some v => exact (hu v z).elim
            · rw [List.getElem?_eq_none (by rw [List.length_set]; omega), List.getElem?_eq_none (by omega)]
          · rw [List.getElem?_set_ne hk]
      exact idem vs free'
    rw [er] at pf
    refine q' _ F' H' pf ⟨D, rfl, nD', ⟨xs, hD', rp'⟩, ?_, n0⟩
    rintro ⟨k, m, e1, e2⟩
    refine no' ⟨k, m, e1, ?_⟩
    rw [wipe_out fun hk => free' k hk _ e1]
    exact e2
end
section
variable {X : Cx} {C : Cl} {B : Bw} {W : WX} {elt tg iter : Expr} {ifs : List Expr} {scope : Scope} {own : List (Str × Nat)} {pos spos py : Pos} {fi : Ef (List D)} {h : D → Sl → Option Sl} {ft : Ef Bool} {fe : DE} {js : List Nat} {y : Str} {i np : Nat}
abbrev W0 : WX := fun _ _ _ _ => False
theorem pts_yes {Y : Cx} : PTs Y [] (tT Y.K C B W0 yesT) := ⟨fun pins s σ H Q I q => pts_nil.run pins s σ H Q I (by obtain ⟨ρ, F, st, g⟩ := q; exact g true F H (Post.start st) rfl)⟩
theorem pd_lc (hc : X.calm = true) (hN : X.N.Nodup) (hi : PDI X C B W tg iter fi) (ok : BlkOk X.N X.env.scope scope own) (hj : ∀ j ∈ js, j ∈ own.map (·.2))
    (hg : ∀ (s : Shared) (H : Hp) (L : Addr) (cl : List (Str × Addr)) (fp : List Addr), PDG (X.blk s H scope (compEnvC scope cl L X.env) fp) C B js tg h) (ht : ∀ (s : Shared) (H : Hp) (L : Addr) (cl : List (Str × Addr)) (fp : List Addr), PTs (X.blk s H scope (compEnvC scope cl L X.env) fp) ifs (tT X.K C B W0 ft))
    (he : ∀ (s : Shared) (H : Hp) (L : Addr) (cl : List (Str × Addr)) (fp : List Addr), PD (X.blk s H scope (compEnvC scope cl L X.env) fp) C B W0 elt fe) (hs : ∀ x, foldedSetIterable iter X.env x = pure x := by intro _; rfl) :
    PD X C B W (.ListComp elt [⟨tg, iter, ifs, 0⟩] scope pos) (dLc (own.map (·.2)) fi h ft fe) := PE.conv (pe_lc hc hN hi ok hg ht (fun s H L cl fp => pd_frz (he s H L cl fp)) hs) fun σ H Q q => lc_run hj q
theorem pds_setLc (hn : B.np = np) (hc : X.calm = true) (hN : X.N.Nodup) (hy : X.N[i]? = some y) (hyl : X.env.scope.names.lookup y = some .local)
    (hsw : swapsWith (.ListComp elt [⟨tg, iter, ifs, 0⟩] scope pos) (some (.Name y py)) spos.line X.env = pure true) (hi : PDI X C B W tg iter fi) (ok : BlkOk X.N X.env.scope scope own) (hj : ∀ j ∈ js, j ∈ own.map (·.2))
    (hg : ∀ (s : Shared) (H : Hp) (L : Addr) (cl : List (Str × Addr)) (fp : List Addr), PDG (X.blk s H scope (compEnvC scope cl L X.env) fp) C B js tg h) (ht : ∀ (s : Shared) (H : Hp) (L : Addr) (cl : List (Str × Addr)) (fp : List Addr), PTs (X.blk s H scope (compEnvC scope cl L X.env) fp) ifs (tT X.K C B W0 ft))
    (he : ∀ (s : Shared) (H : Hp) (L : Addr) (cl : List (Str × Addr)) (fp : List Addr), PD (X.blk s H scope (compEnvC scope cl L X.env) fp) C B W0 elt fe) (hs : ∀ x, foldedSetIterable iter X.env x = pure x := by intro _; rfl) :
    PDS X C B W (.Assign [.Name y py] (.ListComp elt [⟨tg, iter, ifs, 0⟩] scope pos) spos) (sSet i np (dLc (own.map (·.2)) fi h ft fe)) :=
  PS.conv (ps_setLc hc hN hy hyl hsw hi ok hg ht (fun s H L cl fp => pd_frz (he s H L cl fp)) hs) fun E σ H q => lc_run hj (set_run hn q)
end
end Pl
set_option Elab.async false
set_option linter.all false
set_option maxRecDepth 100000
set_option maxHeartbeats 4000000
/-! Calls of defs; a def by what its body makes. -/
namespace Pl
open PySem PySem.Spec PyProof.Rows L2 Tk

/-- a def's promise: it makes f of its arguments' slots -/
def spF (K : PySem.W.Frag) (C : Cl) (f : DE) : Sp := fun vs H Q E => tG (kR K C) noB (fun cls d _ H => E cls d H) f (vs.map some) H Q
/-- the arguments; things of slots are handed over -/
def takeArgs : List RV → Sl → Option (List (Option SV) × Sl)
  | [], ρ => some ([], ρ)
  | .dat d :: rs, ρ => match takeArgs rs ρ with
    | some (as, ρ') => some (some (.dat d) :: as, ρ')
    | none => none
  | .bor i :: rs, ρ => match ρ[i]? with
    | some (some (.dat d)) => match takeArgs rs ρ with
      | some (as, ρ') => some (some (.dat d) :: as, ρ')
      | none => none
    | some (some (.own m)) => match takeArgs rs (ρ.set i none) with
      | some (as, ρ') => some (some (.own m) :: as, ρ')
      | none => none
    | _ => none
  | .own _ :: _, _ => none
def giveBack : List RV → List (Option SV) → Sl → Sl → Sl
  | .bor i :: rs, some (.own _) :: as, some (.own m) :: fs, ρ => giveBack rs as fs (ρ.set i (some (.own m)))
  | _ :: rs, _ :: as, _ :: fs, ρ => giveBack rs as fs ρ
  | _, _, _, ρ => ρ
def gCallF (f : DE) (rs : List RV) : DE := fun ρ => match takeArgs rs ρ with
  | some (as, ρd) => match f as with
    | some (.ok (.dat d) fin) => some (.ok (.dat d) (giveBack rs as fin ρd))
    | some (.ok (.own m) fin) => some (.ok (.own m) (giveBack rs as fin ρd))
    | some (.exc c fs fin) => some (.exc c fs (giveBack rs as fin ρd))
    | _ => none
  | none => none
section
variable {K : PySem.W.Frag} {C : Cl} {B : Bw} {W : WX} {S : Addr → Prop} {F0 H0 F H F' H' : Hp} {ρ ρq : Sl} {σ : L2.St} {Q : VK}
structure Taken (K : PySem.W.Frag) (C : Cl) (B : Bw) (S : Addr → Prop) (F0 H0 : Hp) (ρ : Sl) (σ : L2.St) (F H : Hp) (vs : List V) (rs : List RV) (as : List (Option SV)) (ρd : Sl) : Prop where
  len : as.length = vs.length
  post : Post K C B S F0 H0 ρd σ F H
  sub : ∀ (j : Nat) (x : SV), ρd[j]? = some (some x) → ρ[j]? = some (some x)
  dat : ∀ (k : Nat) (d : D), as[k]? = some (some (.dat d)) → ∃ v, vs[k]? = some v ∧ Rep K C F v d
  own : ∀ (k : Nat) (m : MO), as[k]? = some (some (.own m)) → ∃ i a, rs[k]? = some (.bor i) ∧ ρ[i]? = some (some (.own m)) ∧ vs[k]? = some (.ref a) ∧ σ[i]? = some (some (.ref a)) ∧ ∀ x, ρd[i]? ≠ some (some x)
  one : ∀ (k k' : Nat) (m m' : MO) (i : Nat), as[k]? = some (some (.own m)) → as[k']? = some (some (.own m')) → rs[k]? = some (.bor i) → rs[k']? = some (.bor i) → k = k'
theorem unset {ρ : Sl} {i j : Nat} {x : SV} (h : (ρ.set i none)[j]? = some (some x)) : j ≠ i ∧ ρ[j]? = some (some x) := by
  by_cases hj : j = i
  · subst hj
    by_cases hl : j < ρ.length
    · rw [List.getElem?_set_self hl] at h; cases h
    · rw [List.getElem?_eq_none (by rw [List.length_set]; omega)] at h; cases h
  · rw [List.getElem?_set_ne (Ne.symm hj)] at h
    exact ⟨hj, h⟩
theorem takeArgs_spec : ∀ {rs : List RV} {vs : List V} {ρ : Sl} {as : List (Option SV)} {ρd : Sl}, Post K C B S F0 H0 ρ σ F H → RepRVs K C S H0 ρq F σ H vs rs → takeArgs rs ρ = some (as, ρd) → Taken K C B S F0 H0 ρ σ F H vs rs as ρd
  | [], _, ρ, as, ρd, p, q, e => by
    cases q
    cases e
    exact ⟨rfl, p, fun _ _ h => h, fun k d h => by simp at h, fun k m h => by simp at h, fun k k' m m' i h => by simp at h⟩
  | .own m :: rs, _, ρ, as, ρd, p, q, e => by cases e
  | .dat d :: rs, _, ρ, as, ρd, p, .cons x t _, e => by
    unfold takeArgs at e
    split at e
    · rename_i as' ρ' e'
      cases e
      have ih := takeArgs_spec p t e'
      refine ⟨congrArg Nat.succ ih.len, ih.post, ih.sub, fun k d' h => ?_, fun k m h => ?_, fun k k' m m' i h1 h2 h3 h4 => ?_⟩
      · cases k with
        | zero => simp at h; subst h; exact ⟨_, rfl, x⟩
        | succ k => exact ih.dat k d' (by simpa using h)
      · cases k with
        | zero => simp at h
        | succ k => exact ih.own k m (by simpa using h)
      · cases k with
        | zero => simp at h1
        | succ k =>
          cases k' with
          | zero => simp at h2
          | succ k' => exact congrArg Nat.succ (ih.one k k' m m' i (by simpa using h1) (by simpa using h2) (by simpa using h3) (by simpa using h4))
    · cases e
  | .bor i :: rs, _, ρ, as, ρd, p, .cons (v := v) x t _, e => by
    have x : σ[i]? = some (some v) := x
    unfold takeArgs at e
    split at e
    · rename_i d hd
      split at e
      · rename_i as' ρ' e'
        cases e
        have ih := takeArgs_spec p t e'
        refine ⟨congrArg Nat.succ ih.len, ih.post, ih.sub, fun k d' h => ?_, fun k m h => ?_, fun k k' m m' i h1 h2 h3 h4 => ?_⟩
        · cases k with
          | zero =>
            simp at h
            subst h
            obtain ⟨v', e1, r⟩ := p.st.dat i _ hd
            rw [x] at e1
            cases e1
            exact ⟨v, rfl, r⟩
          | succ k => exact ih.dat k d' (by simpa using h)
        · cases k with
          | zero => simp at h
          | succ k => exact ih.own k m (by simpa using h)
        · cases k with
          | zero => simp at h1
          | succ k =>
            cases k' with
            | zero => simp at h2
            | succ k' => exact congrArg Nat.succ (ih.one k k' m m' i (by simpa using h1) (by simpa using h2) (by simpa using h3) (by simpa using h4))
      · cases e
    · rename_i m hm
      split at e
      · rename_i as' ρ' e'
        cases e
        have ih := takeArgs_spec (p.drop i) t e'
        obtain ⟨a, ea, _, _⟩ := p.st.own i m hm
        rw [x] at ea
        cases ea
        have gone : ∀ x, ρd[i]? ≠ some (some x) := fun x h => (unset (ih.sub i x h)).1 rfl
        refine ⟨congrArg Nat.succ ih.len, ih.post, fun j x h => (unset (ih.sub j x h)).2, fun k d' h => ?_, fun k m' h => ?_, fun k k' m1 m2 i' h1 h2 h3 h4 => ?_⟩
        · cases k with
          | zero => simp at h
          | succ k => exact ih.dat k d' (by simpa using h)
        · cases k with
          | zero => simp at h; subst h; exact ⟨i, a, rfl, hm, rfl, x, gone⟩
          | succ k =>
            obtain ⟨i', a', g1, g2, g3, g4, g5⟩ := ih.own k m' (by simpa using h)
            exact ⟨i', a', by simpa using g1, (unset g2).2, by simpa using g3, g4, g5⟩
        · cases k with
          | zero =>
            cases k' with
            | zero => rfl
            | succ k' =>
              obtain ⟨i2, a', g1, g2, _⟩ := ih.own k' m2 (by simpa using h2)
              have z1 : i = i' := by simpa using h3
              have z2 : rs[k']? = some (RV.bor i') := by simpa using h4
              rw [z2] at g1
              cases g1
              exact ((unset g2).1 z1.symm).elim
          | succ k =>
            cases k' with
            | zero =>
              obtain ⟨i2, a', g1, g2, _⟩ := ih.own k m1 (by simpa using h1)
              have z1 : i = i' := by simpa using h4
              have z2 : rs[k]? = some (RV.bor i') := by simpa using h3
              rw [z2] at g1
              cases g1
              exact ((unset g2).1 z1.symm).elim
            | succ k' => exact congrArg Nat.succ (ih.one k k' m1 m2 i' (by simpa using h1) (by simpa using h2) (by simpa using h3) (by simpa using h4))
      · cases e
    · cases e
theorem map_some {vs : List V} {k : Nat} {v : V} : (vs.map some)[k]? = some (some v) ↔ vs[k]? = some v := by
  rw [List.getElem?_map]
  cases vs[k]? <;> simp
theorem Taken.args {vs : List V} {rs : List RV} {as : List (Option SV)} {ρd : Sl} (t : Taken K C B S F0 H0 ρ σ F H vs rs as ρd) (p : Post K C B S F0 H0 ρ σ F H) : RepSt K C noB as F (vs.map some) H := by
  refine ⟨by rw [List.length_map, t.len], p.st.sub, fun k d h => ?_, fun k m h => ?_, fun k k' a m m' h1 h2 h3 h4 => ?_, fun k m h => absurd h (Nat.not_lt_zero _)⟩
  · obtain ⟨v, e, r⟩ := t.dat k d h
    exact ⟨v, map_some.mpr e, r⟩
  · obtain ⟨i, a, _, g2, g3, g4, _⟩ := t.own k m h
    obtain ⟨b, e1, n, r⟩ := p.st.own i m g2
    rw [g4] at e1
    cases e1
    exact ⟨a, map_some.mpr g3, n, r⟩
  · obtain ⟨i, b, g1, g2, g3, g4, _⟩ := t.own k m h1
    obtain ⟨i', b', g1', g2', g3', g4', _⟩ := t.own k' m' h2
    rw [map_some.mp h3] at g3
    rw [map_some.mp h4] at g3'
    cases g3
    cases g3'
    have := p.st.sep i i' a m m' g2 g2' g4 g4'
    subst this
    exact t.one k k' m m' i h1 h2 g1 g1'
theorem Taken.owns {vs : List V} {rs : List RV} {as : List (Option SV)} {ρd : Sl} (t : Taken K C B S F0 H0 ρ σ F H vs rs as ρd) {a : Addr} (h : OwnA as (vs.map some) a) : OwnA ρ σ a := by
  obtain ⟨k, m, h1, h2⟩ := h
  obtain ⟨i, b, g1, g2, g3, g4, _⟩ := t.own k m h1
  rw [map_some.mp h2] at g3
  cases g3
  exact ⟨i, m, g2, g4⟩
theorem Taken.apart {vs : List V} {rs : List RV} {as : List (Option SV)} {ρd : Sl} (t : Taken K C B S F0 H0 ρ σ F H vs rs as ρd) (p : Post K C B S F0 H0 ρ σ F H) {a : Addr} (h : OwnA as (vs.map some) a) (h' : OwnA ρd σ a) : False := by
  obtain ⟨k, m, h1, h2⟩ := h
  obtain ⟨i, b, g1, g2, g3, g4, g5⟩ := t.own k m h1
  rw [map_some.mp h2] at g3
  cases g3
  obtain ⟨j, m', e1, e2⟩ := h'
  have := p.st.sep i j a m m' g2 (t.sub j _ e1) g4 e2
  subst this
  exact g5 _ e1
/-- behind the call, the things handed over still away -/
theorem Taken.behind {vs : List V} {rs : List RV} {as fin : List (Option SV)} {ρd : Sl} (t : Taken K C B S F0 H0 ρ σ F H vs rs as ρd) (p : Post K C B S F0 H0 ρ σ F H) (q : Post K C noB (OwnA as (vs.map some)) F H fin (vs.map some) F' H') : Post K C B S F0 H0 ρd σ F' H' := by
  refine ⟨p.mono.trans q.mono, fun b o e s => ?_, fun b o e => ?_, ⟨t.post.st.len, q.st.sub, fun i d e => ?_, fun i m e => ?_, t.post.st.sep, t.post.st.fix⟩, t.post.low⟩
  · refine q.frame b o (p.frame b o e s) fun z => ?_
    rcases p.low b (t.owns z) with u | u
    · exact s u
    · rw [e] at u; cases u
  · rcases q.new b o e with h | h | h
    · exact p.new b o h
    · exact .inr (p.there h).symm
    · exact .inr (p.low b (t.owns h)).symm
  · obtain ⟨v, e1, r⟩ := t.post.st.dat i d e
    exact ⟨v, e1, r.to q.mono⟩
  · obtain ⟨a, e1, n, r⟩ := t.post.st.own i m e
    have no : ¬ OwnA as (vs.map some) a := fun z => t.apart p z ⟨i, m, e, e1⟩
    obtain ⟨o, ho⟩ := r.there
    refine ⟨a, e1, ?_, r.to q.mono ((q.frame a o ho no).trans ho.symm)⟩
    cases z : F' a with
    | none => rfl
    | some u =>
      rcases q.new a u z with h | h | h
      · rw [n] at h; cases h
      · rw [ho] at h; cases h
      · exact (no h).elim
/-- a thing comes back into its slot -/
theorem Post.regain (p : Post K C B S F0 H0 ρ σ F H) {i : Nat} {a : Addr} {m : MO} (s : σ[i]? = some (some (.ref a))) (n : F a = none) (r : RepM K C F H a m) (no : ¬ OwnA ρ σ a) (l : S a ∨ H0 a = none) (fx : i < B.np → ∃ b, B.B i = some b ∧ σ[i]? = some (some (.ref b))) :
    Post K C B S F0 H0 (ρ.set i (some (.own m))) σ F H := by
  have cs : ∀ {j : Nat} {x : SV}, (ρ.set i (some (.own m)))[j]? = some (some x) → (j = i ∧ x = .own m) ∨ (j ≠ i ∧ ρ[j]? = some (some x)) := by
    intro j x h
    by_cases hj : j = i
    · subst hj
      by_cases hl : j < ρ.length
      · rw [List.getElem?_set_self hl] at h; cases h; exact .inl ⟨rfl, rfl⟩
      · rw [List.getElem?_eq_none (by rw [List.length_set]; omega)] at h; cases h
    · rw [List.getElem?_set_ne (Ne.symm hj)] at h
      exact .inr ⟨hj, h⟩
  refine ⟨p.mono, p.frame, p.new, ⟨by rw [List.length_set]; exact p.st.len, p.st.sub, fun j d h => ?_, fun j m' h => ?_, fun j k b m1 m2 h1 h2 h3 h4 => ?_, fun j m' h1 h2 => ?_⟩, ?_⟩
  · rcases cs h with ⟨_, z⟩ | ⟨_, h⟩
    · cases z
    · exact p.st.dat j d h
  · rcases cs h with ⟨rfl, z⟩ | ⟨_, h⟩
    · cases z
      exact ⟨a, s, n, r⟩
    · exact p.st.own j m' h
  · rcases cs h1 with ⟨rfl, _⟩ | ⟨g1, q1⟩
    · rcases cs h2 with ⟨rfl, _⟩ | ⟨g2, q2⟩
      · rfl
      · rw [s] at h3
        cases h3
        exact (no ⟨k, m2, q2, h4⟩).elim
    · rcases cs h2 with ⟨rfl, _⟩ | ⟨g2, q2⟩
      · rw [s] at h4
        cases h4
        exact (no ⟨j, m1, q1, h3⟩).elim
      · exact p.st.sep j k b m1 m2 q1 q2 h3 h4
  · rcases cs h2 with ⟨rfl, _⟩ | ⟨_, q2⟩
    · exact fx h1
    · exact p.st.fix j m' h1 q2
  · rintro b ⟨j, m', h1, h2⟩
    rcases cs h1 with ⟨rfl, _⟩ | ⟨_, q1⟩
    · rw [s] at h2
      cases h2
      exact l
    · exact p.low b ⟨j, m', q1, h2⟩
theorem giveBack_spec : ∀ {rs : List RV} {as fin : List (Option SV)} {ρ : Sl}, Post K C B S F0 H0 ρ σ F H →
    (∀ (k i : Nat) (m m' : MO), rs[k]? = some (.bor i) → as[k]? = some (some (.own m)) → fin[k]? = some (some (.own m')) → ∃ a, σ[i]? = some (some (.ref a)) ∧ F a = none ∧ RepM K C F H a m' ∧ ¬ OwnA ρ σ a ∧ (S a ∨ H0 a = none) ∧ (i < B.np → ∃ b, B.B i = some b ∧ σ[i]? = some (some (.ref b)))) →
    (∀ (k k' i i' : Nat) (m m' : MO) (a : Addr), rs[k]? = some (.bor i) → as[k]? = some (some (.own m)) → rs[k']? = some (.bor i') → as[k']? = some (some (.own m')) → σ[i]? = some (some (.ref a)) → σ[i']? = some (some (.ref a)) → k = k') →
    Post K C B S F0 H0 (giveBack rs as fin ρ) σ F H ∧ ∀ a, OwnA (giveBack rs as fin ρ) σ a → OwnA ρ σ a ∨ ∃ (k i : Nat) (m m' : MO), rs[k]? = some (.bor i) ∧ as[k]? = some (some (.own m)) ∧ fin[k]? = some (some (.own m')) ∧ σ[i]? = some (some (.ref a))
  | [], as, fin, ρ, p, _, _ => by
    have e : giveBack [] as fin ρ = ρ := by unfold giveBack; cases as <;> cases fin <;> rfl
    rw [e]
    exact ⟨p, fun a h => .inl h⟩
  | r :: rs, [], fin, ρ, p, _, _ => by
    have e : giveBack (r :: rs) [] fin ρ = ρ := by cases r <;> rfl
    rw [e]
    exact ⟨p, fun a h => .inl h⟩
  | r :: rs, o :: as, [], ρ, p, _, _ => by
    have e : giveBack (r :: rs) (o :: as) [] ρ = ρ := by
      cases r <;> first
        | rfl
        | (rcases o with _ | (_ | _) <;> rfl)
    rw [e]
    exact ⟨p, fun a h => .inl h⟩
  | r :: rs, o :: as, f :: fs, ρ, p, h, u => by
    have u' : ∀ (k k' i i' : Nat) (m m' : MO) (a : Addr), rs[k]? = some (.bor i) → as[k]? = some (some (.own m)) → rs[k']? = some (.bor i') → as[k']? = some (some (.own m')) → σ[i]? = some (some (.ref a)) → σ[i']? = some (some (.ref a)) → k = k' :=
      fun k k' i i' m m' a g1 g2 g3 g4 g5 g6 => Nat.succ.inj (u (k + 1) (k' + 1) i i' m m' a (by simpa using g1) (by simpa using g2) (by simpa using g3) (by simpa using g4) g5 g6)
    have plain : giveBack (r :: rs) (o :: as) (f :: fs) ρ = giveBack rs as fs ρ → Post K C B S F0 H0 (giveBack (r :: rs) (o :: as) (f :: fs) ρ) σ F H ∧ ∀ a, OwnA (giveBack (r :: rs) (o :: as) (f :: fs) ρ) σ a → OwnA ρ σ a ∨ ∃ (k i : Nat) (m m' : MO), (r :: rs)[k]? = some (.bor i) ∧ (o :: as)[k]? = some (some (.own m)) ∧ (f :: fs)[k]? = some (some (.own m')) ∧ σ[i]? = some (some (.ref a)) := by
      intro e
      rw [e]
      obtain ⟨p1, c1⟩ := giveBack_spec (rs := rs) (as := as) (fin := fs) p (fun k i m m' g1 g2 g3 => h (k + 1) i m m' (by simpa using g1) (by simpa using g2) (by simpa using g3)) u'
      refine ⟨p1, fun a z => ?_⟩
      rcases c1 a z with z | ⟨k, i, m, m', g1, g2, g3, g4⟩
      · exact .inl z
      · exact .inr ⟨k + 1, i, m, m', by simpa using g1, by simpa using g2, by simpa using g3, g4⟩
    match r, o, f, plain, h, u with
    | .bor i, some (.own m), some (.own m'), _, h, u =>
      obtain ⟨a, g1, g2, g3, g4, g5, g6⟩ := h 0 i m m' rfl rfl rfl
      have p0 := p.regain g1 g2 g3 g4 g5 g6
      have e : giveBack (.bor i :: rs) (some (.own m) :: as) (some (.own m') :: fs) ρ = giveBack rs as fs (ρ.set i (some (.own m'))) := rfl
      rw [e]
      have own0 : ∀ b, OwnA (ρ.set i (some (.own m'))) σ b → OwnA ρ σ b ∨ b = a := by
        rintro b ⟨j, n, h1, h2⟩
        by_cases hj : j = i
        · subst hj
          rw [g1] at h2
          cases h2
          exact .inr rfl
        · rw [List.getElem?_set_ne (Ne.symm hj)] at h1
          exact .inl ⟨j, n, h1, h2⟩
      obtain ⟨p1, c1⟩ := giveBack_spec (rs := rs) (as := as) (fin := fs) p0 (fun k i' n n' q1 q2 q3 => by
        obtain ⟨b, z1, z2, z3, z4, z5, z6⟩ := h (k + 1) i' n n' (by simpa using q1) (by simpa using q2) (by simpa using q3)
        refine ⟨b, z1, z2, z3, fun z => ?_, z5, z6⟩
        rcases own0 b z with z | z
        · exact z4 z
        · subst z
          exact absurd (u 0 (k + 1) i i' m n b rfl rfl (by simpa using q1) (by simpa using q2) g1 z1) (by omega)) u'
      refine ⟨p1, fun b z => ?_⟩
      rcases c1 b z with z | ⟨k, i', n, n', q1, q2, q3, q4⟩
      · rcases own0 b z with z | z
        · exact .inl z
        · subst z
          exact .inr ⟨0, i, m, m', rfl, rfl, rfl, g1⟩
      · exact .inr ⟨k + 1, i', n, n', by simpa using q1, by simpa using q2, by simpa using q3, q4⟩
    | .bor i, some (.own m), none, plain, _, _ => exact plain rfl
    | .bor i, some (.own m), some (.dat d), plain, _, _ => exact plain rfl
    | .bor i, some (.dat d), f, plain, _, _ => exact plain rfl
    | .bor i, none, f, plain, _, _ => exact plain rfl
    | .dat d, o, f, plain, _, _ => exact plain rfl
    | .own m, o, f, plain, _, _ => exact plain rfl
/-- behind the call -/
theorem Taken.done {vs : List V} {rs : List RV} {as fin : List (Option SV)} {ρd : Sl} (t : Taken K C B S F0 H0 ρ σ F H vs rs as ρd) (p : Post K C B S F0 H0 ρ σ F H) (q : Post K C noB (OwnA as (vs.map some)) F H fin (vs.map some) F' H') :
    Post K C B S F0 H0 (giveBack rs as fin ρd) σ F' H' ∧ ∀ a, OwnA (giveBack rs as fin ρd) σ a → OwnA ρd σ a ∨ OwnA fin (vs.map some) a := by
  have pb := t.behind p q
  obtain ⟨p1, c1⟩ := giveBack_spec (rs := rs) (as := as) (fin := fin) pb (fun k i m m' g1 g2 g3 => by
    obtain ⟨i', a, z1, z2, z3, z4, z5⟩ := t.own k m g2
    rw [g1] at z1
    cases z1
    obtain ⟨b, e1, n, r⟩ := q.st.own k m' g3
    rw [map_some.mpr z3] at e1
    cases e1
    refine ⟨a, z4, n, r, fun z => t.apart p ⟨k, m, g2, map_some.mpr z3⟩ z, p.low a ⟨i, m, z2, z4⟩, fun hi => ?_⟩
    exact p.st.fix i m hi z2) (fun k k' i i' m m' a g1 g2 g3 g4 g5 g6 => by
    obtain ⟨j, b, z1, z2, z3, z4, _⟩ := t.own k m g2
    obtain ⟨j', b', y1, y2, y3, y4, _⟩ := t.own k' m' g4
    rw [g1] at z1
    rw [g3] at y1
    cases z1
    cases y1
    have := p.st.sep i i' a m m' z2 y2 g5 g6
    subst this
    exact t.one k k' m m' i g2 g4 g1 g3)
  refine ⟨p1, fun a z => ?_⟩
  rcases c1 a z with z | ⟨k, i, m, m', g1, g2, g3, g4⟩
  · exact .inl z
  · obtain ⟨j, b, z1, z2, z3, z4, _⟩ := t.own k m g2
    rw [g1] at z1
    cases z1
    rw [g4] at z4
    cases z4
    exact .inr ⟨k, m', g3, map_some.mpr z3⟩
theorem call_run {f : DE} {vs : List V} {rs : List RV} (p : Post K C B S F0 H0 ρ σ F H) (q : RepRVs K C S H0 ρ F σ H vs rs) (g : Goal K C B W S F0 H0 σ Q (gCallF f rs ρ)) : spF K C f vs H Q (WE W σ) := by
  unfold gCallF at g
  split at g
  · rename_i as ρd e
    have t := takeArgs_spec p q e
    refine ⟨as, F, t.args p, ?_⟩
    cases ef : f as with
    | none => rw [ef] at g; exact False.elim g
    | some o =>
      rw [ef] at g
      cases o with
      | exc c fs fin => exact fun dd F' H' pq ex => g dd F' H' (t.done p pq).1 ex
      | ok r fin =>
        cases r with
        | bor i => exact False.elim g
        | dat d => exact fun v F' H' pq rv => g v F' H' (t.done p pq).1 rv
        | own m =>
          rintro v F' H' pq ⟨a, rfl, n, rm, no, s⟩
          obtain ⟨p1, c1⟩ := t.done p pq
          refine g _ F' H' p1 ⟨a, rfl, n, rm, fun z => ?_, ?_⟩
          · rcases c1 a z with z | z
            · rcases s with s | s
              · exact t.apart p s z
              · obtain ⟨i, m', e1, e2⟩ := z
                obtain ⟨b, e3, _, r⟩ := t.post.st.own i m' e1
                rw [e2] at e3
                cases e3
                obtain ⟨o, ho⟩ := r.there
                rw [ho] at s
                cases s
            · exact no z
          · rcases s with s | s
            · exact p.low a (t.owns s)
            · exact p.there s
  · exact False.elim g
end

/-! ### the call as an expression -/
section
variable {X : Cx} {CX : CXT} {k : Nat} {f : Addr} {fd : FuncData} {ps : List Str} {sp : Sp} {E : L2.St → XK} {x : Str} {p pos : Pos} {e : Expr} {es : List Expr} {t : TA}
theorem pe_callGS (F : FnG X.prog X.w X.K X.mg X.base CX k f fd ps sp) (gd : X.A.guards = some []) (hr : Room k X.A) (hg : Gl X x) (hm : X.mg x = some (.ref f)) (hk : PySem.W.keepIn X.K (.ref f) = true) (hb : Binds X.K fd ps []) (hx : ∀ σ, PassesAt CX X σ (E σ))
    (ha : PA X (e :: es) t) (hdb : (x == ("__debug__" : Str)) = false := by decide) (he : starEach (e :: es) X.env = (false, eval e X.env) :: starEach es X.env := by rfl)
    (hpl : (backTo pos (starEach es X.env)).any (·.1) = false := by rfl) : PE X (.Call (.Name x p) (e :: es) [] pos) (tCallS sp E t) := by
  constructor
  intro pins s σ H Q I ask
  refine wpAny_Call_Name_kw (ld_glob I hg hm ?_ hdb)
  refine PySem.W.callWith_K (h₀ := X.base) I.ok.mod.kin hk ?_ he hpl
  refine thn (ha.run pos pins s σ H _ I ask) ?_
  rintro us s1 ⟨vs, H1, I1, rel, q⟩
  refine ⟨I1.kIn, ?_⟩
  have nArgs : us.length = ps.length := (rel.length.symm).trans (F.arity _ _ _ _ q)
  have bnd := hb s1 us I1.kIn (by rw [List.append_nil]; exact nArgs)
  rw [List.append_nil] at bnd
  refine wpAny_call (codeAny_mono (F.go X.A X.stack s1 H1 ⟨us, []⟩ us vs Q (E σ) gd hr I1.env0 bnd rel q) ?_)
  rintro (er | fl) s' out
  · exact hx σ pins H1 s1 er s' I1 out
  · cases fl with
    | ret u => exact I1.after out
    | next => exact out.elim
    | brk => exact out.elim
    | cont => exact out.elim
end
abbrev dFn (f : DE) (fl : Ef (List RV)) : DE := dCall (gCallF f) fl
section
variable {X : Cx} {C : Cl} {B : Bw} {W : WX} {k : Nat} {f : Addr} {fd : FuncData} {ps : List Str} {x : Str} {p pos : Pos} {e : Expr} {es : List Expr} {fF : DE} {fl : Ef (List RV)}
theorem pd_call (F : FnG X.prog X.w X.K X.mg X.base (L2.CX X.prog X.w) k f fd ps (spF X.K C fF)) (gd : X.A.guards = some []) (hr : Room k X.A) (tk : Takes X W) (hg : Gl X x) (hm : X.mg x = some (.ref f)) (hk : PySem.W.keepIn X.K (.ref f) = true) (hb : Binds X.K fd ps [])
    (ha : PDA X C B W (e :: es) fl) (hdb : (x == ("__debug__" : Str)) = false := by decide) (he : starEach (e :: es) X.env = (false, eval e X.env) :: starEach es X.env := by rfl)
    (hpl : (backTo pos (starEach es X.env)).any (·.1) = false := by rfl) : PD X C B W (.Call (.Name x p) (e :: es) [] pos) (dFn fF fl) :=
  PE.conv (pe_callGS F gd hr hg hm hk hb (passAt tk) ha hdb he hpl) fun σ H Q ⟨ρ, F', st, g⟩ => tG_bind (k1 := kL X.K C) (Post.start st) g fun rs ρ1 vs F1 H1 g1 p1 _ q1 => call_run p1 q1 g1
end

/-! ### a def -/
section
variable {P : Program} {w : World} {K : PySem.W.Frag} {mg : Str → Option Value} {base : Heap}
theorem okGX {x qual : Str} {st : Stmt} {f : Addr} {fd : FuncData} {N ps : List Str} {k : Nat} {sp : Sp} (F : Fun K x qual st f fd) (S : FnScope N ps (defScope st)) (ar : ∀ vs H Q E, sp vs H Q E → vs.length = ps.length)
    (body : ∀ (cdv : Value) (A : Around) (outer : List Env) (s : Shared) (H : Hp) (vs : List V) (Q : VK) (E : XK), A.guards = some [] → Room k (A.deeper (envOfC qual (defScope st) s.heap.objs.size f cdv)) → sp vs H Q E →
      ∃ t, PSs (cxOf (L2.CX P w) P w K mg base N qual (defScope st) f cdv A outer s H E) (defBody st) t ∧ t { nx := fun _ H' => Q .non H', rt := Q } (L2.start N vs) H) :
    FnG P w K mg base (L2.CX P w) (k + 1) f fd ps sp := by
  refine ⟨ar, fun A outer s H args us vs Q E gd room env bnd rel ask => ?_⟩
  obtain ⟨oc, od, kV, doc, pm, an, cdv, ct, osl, efd, look, hcode⟩ := F.ex
  subst efd
  have KH : K.In s.heap := env.mod.kin.keeps fun b o e => (env.bs b o e).1
  have noLim : s.heap.NoLimit := env.mod.nolimit.keeps fun b o e => (env.bs b o e).1
  have kinds : ∀ y ∈ ps.zip us, (defScope st).names.lookup y.1 = some .local ∨ ((defScope st).names.lookup y.1 = some .cell ∧ ((cellsFrom (s.heap.objs.size + 1) (defScope st).names []).lookup y.1).isSome = true) := by
    rintro ⟨n, v⟩ hy
    have hn : n ∈ ps := (List.of_mem_zip hy).1
    cases S.par n hn with
    | inl q => exact Or.inl q
    | inr q => exact Or.inr ⟨q, PySem.W.cellsFrom_some _ _ _ (Or.inl q)⟩
  refine codeAny_call_function room.depth (KH _ _ look) rfl S.co S.gen rfl (PySem.W.codeRec_of KH hcode) (bnd _ _ _ _ ?_)
  refine wpAny_newFunctionEnv_cells S.kind kinds fun env' he s1 x => ?_
  subst he
  refine ⟨noLim.keeps x.toInCall.keep, codeAny_func ?_⟩
  obtain ⟨t, tr, ans⟩ := body cdv A outer s H vs Q E gd (room.deeper _) ask
  have inv := inv_start (CX := L2.CX P w) (E := E) S room.hd env (ar _ _ _ _ ask) rel x
  refine wpAny_mono (tr.run [] s1 (L2.start N vs) H _ inv ans) (fun fl s' out => ?_) fun e s' out => out
  cases fl with
  | brk => obtain ⟨_, _, _, q⟩ := out; exact q.elim
  | cont => obtain ⟨_, _, _, q⟩ := out; exact q.elim
  | next => obtain ⟨σ', H', J, q⟩ := out; exact ⟨V.non, H', J.os, J.bare, J.base, J.hok, rfl, q⟩
  | ret u => obtain ⟨v, σ', H', J, rv, q⟩ := out; exact ⟨v, H', J.os, J.bare, J.base, J.hok, rv, q⟩
end
def finOf (n : Nat) (ρ : Sl) : Sl := (List.range n).map fun (i : Nat) => match ρ[i]? with
  | some (some (.own m)) => some (.own m)
  | _ => none
/-- what a def makes of its arguments' slots, its body making g -/
def callF (N n : Nat) (g : DS) : DE := fun as => if as.length = n then match g (as ++ List.replicate (N - n) none) with
    | some (.nx ρ) => some (.ok (.dat .non) (finOf n ρ))
    | some (.rt (.dat d) ρ) => some (.ok (.dat d) (finOf n ρ))
    | some (.rt (.own m) ρ) => some (.ok (.own m) (finOf n ρ))
    | some (.rt (.bor i) ρ) => match ρ[i]? with
      | some (some (.dat d)) => some (.ok (.dat d) (finOf n ρ))
      | some (some (.own m)) => if n ≤ i then some (.ok (.own m) (finOf n ρ)) else none
      | _ => none
    | some (.exc c fs ρ) => some (.exc c fs (finOf n ρ))
    | _ => none
  else none
section
variable {K : PySem.W.Frag} {C : Cl} {F H F' H' : Hp} {as ρ' : Sl} {vs : List V} {σ' : L2.St} {N : List Str} {n : Nat}
/-- what is borrowed at the entry -/
def bwOf (as : Sl) (vs : List V) : Bw := ⟨fun i => match as[i]?, vs[i]? with
  | some (some (.own _)), some (.ref a) => some a
  | _, _ => none, as.length⟩
theorem bwOf_inv {i : Nat} {a : Addr} (h : (bwOf as vs).B i = some a) : ∃ m, as[i]? = some (some (.own m)) ∧ vs[i]? = some (.ref a) := by
  have h : (match as[i]?, vs[i]? with | some (some (.own _)), some (.ref a) => some a | _, _ => none) = some a := h
  split at h
  · rename_i m b e1 e2
    cases h
    exact ⟨m, e1, e2⟩
  · cases h
theorem app_none {as : Sl} {k i : Nat} {x : SV} (h : (as ++ List.replicate k none)[i]? = some (some x)) : as[i]? = some (some x) := by
  by_cases hi : i < as.length
  · rw [List.getElem?_append_left hi] at h
    exact h
  · rw [List.getElem?_append_right (by omega), List.getElem?_replicate] at h
    split at h <;> cases h
theorem start_at {i : Nat} {v : V} (h : vs[i]? = some v) : (L2.start N vs)[i]? = some (some v) := by
  unfold L2.start
  rw [List.getElem?_append_left (by rw [List.length_map]; exact (List.getElem?_eq_some_iff.mp h).1)]
  exact map_some.mpr h
theorem start_back {i : Nat} {v : V} (h : (L2.start N vs)[i]? = some (some v)) : vs[i]? = some v := by
  unfold L2.start at h
  by_cases hi : i < (vs.map some).length
  · rw [List.getElem?_append_left hi] at h
    exact map_some.mp h
  · rw [List.getElem?_append_right (by omega), List.getElem?_replicate] at h
    split at h <;> cases h
theorem enter (h : RepSt K C noB as F (vs.map some) H) : RepSt K C (bwOf as vs) (as ++ List.replicate (N.length - as.length) none) F (L2.start N vs) H := by
  have l := h.len
  rw [List.length_map] at l
  refine ⟨?_, h.sub, fun i d e => ?_, fun i m e => ?_, fun i j a m m' e1 e2 e3 e4 => ?_, fun i m hi e => ?_⟩
  · unfold L2.start
    rw [List.length_append, List.length_append, List.length_replicate, List.length_replicate, List.length_map, l]
  · obtain ⟨v, e1, r⟩ := h.dat i d (app_none e)
    exact ⟨v, start_at (map_some.mp e1), r⟩
  · obtain ⟨a, e1, n, r⟩ := h.own i m (app_none e)
    exact ⟨a, start_at (map_some.mp e1), n, r⟩
  · exact h.sep i j a m m' (app_none e1) (app_none e2) (map_some.mpr (start_back e3)) (map_some.mpr (start_back e4))
  · obtain ⟨a, e1, n, r⟩ := h.own i m (app_none e)
    refine ⟨a, ?_, start_at (map_some.mp e1)⟩
    show (match as[i]?, vs[i]? with | some (some (.own _)), some (.ref a) => some a | _, _ => none) = some a
    rw [app_none e, map_some.mp e1]
theorem own_enter : OwnA (as ++ List.replicate (N.length - as.length) none) (L2.start N vs) = OwnA as (vs.map some) := by
  funext a
  refine propext ⟨?_, ?_⟩
  · rintro ⟨i, m, e1, e2⟩
    exact ⟨i, m, app_none e1, map_some.mpr (start_back e2)⟩
  · rintro ⟨i, m, e1, e2⟩
    refine ⟨i, m, ?_, start_at (map_some.mp e2)⟩
    rw [List.getElem?_append_left (List.getElem?_eq_some_iff.mp e1).1]
    exact e1
theorem finOf_own {ρ : Sl} {i : Nat} {x : SV} (h : (finOf n ρ)[i]? = some (some x)) : i < n ∧ ∃ m, x = .own m ∧ ρ[i]? = some (some (.own m)) := by
  unfold finOf at h
  rw [List.getElem?_map] at h
  by_cases hi : i < n
  · rw [List.getElem?_range hi] at h
    simp only [Option.map_some, Option.some.injEq] at h
    refine ⟨hi, ?_⟩
    split at h
    · rename_i m e
      cases h
      exact ⟨m, rfl, e⟩
    · cases h
  · rw [List.getElem?_eq_none (by rw [List.length_range]; omega)] at h
    cases h
theorem leave (h : RepSt K C noB as F (vs.map some) H) (p : Post K C (bwOf as vs) (OwnA as (vs.map some)) F H ρ' σ' F' H') : Post K C noB (OwnA as (vs.map some)) F H (finOf as.length ρ') (vs.map some) F' H' ∧
    ∀ a, OwnA (finOf as.length ρ') (vs.map some) a → ∃ i m, i < as.length ∧ ρ'[i]? = some (some (.own m)) ∧ σ'[i]? = some (some (.ref a)) := by
  have here : ∀ {i : Nat} {m : MO}, (finOf as.length ρ')[i]? = some (some (.own m)) → ∃ a m0, i < as.length ∧ ρ'[i]? = some (some (.own m)) ∧ σ'[i]? = some (some (.ref a)) ∧ vs[i]? = some (.ref a) ∧ as[i]? = some (some (.own m0)) := by
    intro i m e
    obtain ⟨hi, m', z, e⟩ := finOf_own e
    cases z
    obtain ⟨a, b1, b2⟩ := p.st.fix i m hi e
    obtain ⟨m0, c1, c2⟩ := bwOf_inv b1
    exact ⟨a, m0, hi, e, b2, c2, c1⟩
  have l := h.len
  rw [List.length_map] at l
  refine ⟨⟨p.mono, p.frame, p.new, ⟨by rw [List.length_map]; unfold finOf; simp [l], p.st.sub, fun i d e => ?_, fun i m e => ?_, fun i j a m m' e1 e2 e3 e4 => ?_, fun i m hi => absurd hi (Nat.not_lt_zero _)⟩, ?_⟩, ?_⟩
  · obtain ⟨_, m, z, _⟩ := finOf_own e
    cases z
  · obtain ⟨a, m0, hi, g1, g2, g3, g4⟩ := here e
    obtain ⟨b, e1, n, r⟩ := p.st.own i m g1
    rw [g2] at e1
    cases e1
    exact ⟨a, map_some.mpr g3, n, r⟩
  · obtain ⟨b, m0, hi, g1, g2, g3, g4⟩ := here e1
    obtain ⟨b', m0', hi', g1', g2', g3', g4'⟩ := here e2
    rw [map_some.mp e3] at g3
    rw [map_some.mp e4] at g3'
    cases g3
    cases g3'
    exact p.st.sep i j a m m' g1 g1' g2 g2'
  · rintro a ⟨i, m, e1, e2⟩
    obtain ⟨b, m0, hi, g1, g2, g3, g4⟩ := here e1
    exact .inl ⟨i, m0, g4, e2⟩
  · rintro a ⟨i, m, e1, e2⟩
    obtain ⟨b, m0, hi, g1, g2, g3, g4⟩ := here e1
    rw [map_some.mp e2] at g3
    cases g3
    exact ⟨i, m, hi, g1, g2⟩
end
section
variable {P : Program} {w : World} {K : PySem.W.Frag} {mg : Str → Option Value} {base : Heap} {C : Cl}
/-- THE RULE for a def: its body makes g -/
theorem def_ok {x qual : Str} {st : Stmt} {f : Addr} {fd : FuncData} {N ps : List Str} {k n : Nat} {g : DS} (F : Fun K x qual st f fd) (S : FnScope N ps (defScope st)) (hn : ps.length = n)
    (body : ∀ (cdv : Value) (A : Around) (outer : List Env) (s : Shared) (H : Hp) (E : XK) (B : Bw), A.guards = some [] → Room k (A.deeper (envOfC qual (defScope st) s.heap.objs.size f cdv)) → B.np = n →
      PDSs (cxOf (L2.CX P w) P w K mg base N qual (defScope st) f cdv A outer s H E) C B (fun cls d _ H => E cls d H) (defBody st) g) :
    FnG P w K mg base (L2.CX P w) (k + 1) f fd ps (spF K C (callF N.length n g)) := by
  have arity : ∀ (vs : List V) (H : Hp) (Q : VK) (E : XK), spF K C (callF N.length n g) vs H Q E → vs.length = n := by
    rintro vs H Q E ⟨as, F0, st0, q⟩
    have l := st0.len
    rw [List.length_map] at l
    by_cases h : as.length = n
    · rw [l, h]
    · have e : callF N.length n g as = none := if_neg h
      rw [e] at q
      exact False.elim q
  refine okGX F S (fun vs H Q E h => by rw [hn]; exact arity vs H Q E h) fun cdv A outer s H vs Q E gd hr h => ?_
  have lv := arity vs H Q E h
  obtain ⟨as, F0, st0, q⟩ := h
  have la : as.length = n := by
    have l := st0.len
    rw [List.length_map] at l
    rw [← l, lv]
  refine ⟨_, body cdv A outer s H E (bwOf as vs) gd hr la, ?_⟩
  refine ⟨as ++ List.replicate (N.length - n) none, F0, by have := enter (N := N) st0; rw [la] at this; exact this, ?_⟩
  have eo : OwnA (as ++ List.replicate (N.length - n) none) (L2.start N vs) = OwnA as (vs.map some) := by
    have := own_enter (as := as) (vs := vs) (N := N)
    rw [la] at this
    exact this
  rw [eo]
  have ec : callF N.length n g as = (match g (as ++ List.replicate (N.length - n) none) with
    | some (.nx ρ) => some (.ok (.dat .non) (finOf n ρ))
    | some (.rt (.dat d) ρ) => some (.ok (.dat d) (finOf n ρ))
    | some (.rt (.own m) ρ) => some (.ok (.own m) (finOf n ρ))
    | some (.rt (.bor i) ρ) => match ρ[i]? with
      | some (some (.dat d)) => some (.ok (.dat d) (finOf n ρ))
      | some (some (.own m)) => if n ≤ i then some (.ok (.own m) (finOf n ρ)) else none
      | _ => none
    | some (.exc c fs ρ) => some (.exc c fs (finOf n ρ))
    | _ => none) := if_pos la
  rw [ec] at q
  have lv' : ∀ {ρ' : Sl} {σ' : L2.St} {F' H' : Hp}, Post K C (bwOf as vs) (OwnA as (vs.map some)) F0 H ρ' σ' F' H' → Post K C noB (OwnA as (vs.map some)) F0 H (finOf n ρ') (vs.map some) F' H' ∧ ∀ a, OwnA (finOf n ρ') (vs.map some) a → ∃ i m, i < n ∧ ρ'[i]? = some (some (.own m)) ∧ σ'[i]? = some (some (.ref a)) := by
    intro ρ' σ' F' H' p
    have := leave st0 p
    rw [la] at this
    exact this
  cases eg : g (as ++ List.replicate (N.length - n) none) with
  | none => rw [eg] at q; exact False.elim q
  | some o =>
    rw [eg] at q
    cases o with
    | bk ρ' => exact False.elim q
    | ct ρ' => exact False.elim q
    | nx ρ' => exact fun σ' F' H' p => q .non F' H' (lv' p).1 .non
    | exc c fs ρ' => exact fun dd σ' F' H' p ex => q dd F' H' (lv' p).1 ex
    | rt r ρ' =>
      cases r with
      | dat d => exact fun v σ' F' H' p rv => q v F' H' (lv' p).1 rv
      | own m =>
        rintro v σ' F' H' p ⟨a, rfl, nn, rm, no, s⟩
        obtain ⟨p1, c1⟩ := lv' p
        refine q _ F' H' p1 ⟨a, rfl, nn, rm, fun z => ?_, s⟩
        obtain ⟨i, m', _, e1, e2⟩ := c1 a z
        exact no ⟨i, m', e1, e2⟩
      | bor i =>
        intro v σ' F' H' p rv
        have rv : σ'[i]? = some (some v) := rv
        obtain ⟨p1, c1⟩ := lv' p
        dsimp only at q
        split at q
        · rename_i d e
          obtain ⟨v', e1, r⟩ := p.st.dat i d e
          rw [rv] at e1
          cases e1
          exact q _ F' H' p1 r
        · rename_i m e
          split at q
          · rename_i hi
            obtain ⟨a, e1, nn, r⟩ := p.st.own i m e
            rw [rv] at e1
            cases e1
            refine q _ F' H' p1 ⟨a, rfl, nn, r, fun z => ?_, p.low a ⟨i, m, e, rv⟩⟩
            obtain ⟨j, m', hj, g1, g2⟩ := c1 a z
            have := p.st.sep j i a m' m g1 e g2 rv
            omega
          · exact False.elim q
        · exact False.elim q
end
end Pl
set_option Elab.async false
set_option linter.all false
set_option maxRecDepth 100000
set_option maxHeartbeats 4000000
/-! A def with its name; short forms for what gen.py writes. -/
namespace Pl
open PySem PySem.Spec PyProof.Rows L2 Tk
/-- the def x stands there and makes fF -/
structure DefOk (P : Program) (w : World) (K : PySem.W.Frag) (mg : Str → Option Value) (base : Heap) (C : Cl) (k : Nat) (x : Str) (ps : List Str) (fF : DE) : Prop where
  ex : ∃ f fd, FnG P w K mg base (L2.CX P w) k f fd ps (spF K C fF) ∧ Binds K fd ps [] ∧ PySem.W.keepIn K (.ref f) = true ∧ mg x = some (.ref f)
section
variable {X : Cx} {C : Cl} {B : Bw} {W : WX} {k : Nat} {ps : List Str} {x : Str} {p pos : Pos} {e : Expr} {es : List Expr} {fF : DE} {fl : Ef (List RV)}
theorem pd_fn (h : DefOk X.prog X.w X.K X.mg X.base C k x ps fF) (gd : X.A.guards = some []) (hr : Room k X.A) (tk : Takes X W) (hg : Gl X x) (ha : PDA X C B W (e :: es) fl) (hdb : (x == ("__debug__" : Str)) = false := by decide)
    (he : starEach (e :: es) X.env = (false, eval e X.env) :: starEach es X.env := by rfl) (hpl : (backTo pos (starEach es X.env)).any (·.1) = false := by rfl) : PD X C B W (.Call (.Name x p) (e :: es) [] pos) (dFn fF fl) := by
  obtain ⟨f, fd, F, b, kf, mf⟩ := h.ex
  exact pd_call F gd hr tk hg mf kf b ha hdb he hpl
end
section
variable {X : Cx} {C : Cl} {B : Bw} {W : WX} {o : Expr} {fo : DE} {pos : Pos}
def hNeg : D → Option D
  | .int i => some (.int (-i))
  | _ => none
def dUn (h : D → Option D) (f : DE) : DE := bindE f fun r ρ => match r.see ρ with
  | some a => match h a with
    | some d => some (.ok (.dat d) ρ)
    | none => none
  | none => none
theorem pd_neg (h : PD X C B W o fo) : PD X C B W (.UnaryOp .USub o pos) (dUn hNeg fo) := PE.conv (pe_un un_neg h) fun σ H Q ⟨ρ, F, st, g⟩ => tG_bind (k1 := kR X.K C) (Post.start st) g fun r1 ρ1 v F1 H1 g1 p1 _ q1 => by
  try dsimp only at g1
  split at g1
  · rename_i a e
    split at g1
    · rename_i d e2
      unfold hNeg at e2
      split at e2
      · rename_i i
        cases e2
        exact ⟨i, (RepRV.see q1 p1.st e).int_inv, g1 _ F1 H1 p1 (.int _)⟩
      · cases e2
    · exact False.elim g1
  · exact False.elim g1
end
/-- one more than the number of slot i: how often a while may turn -/
def natAt (i : Nat) (ρ : Sl) : Nat := match (ρ[i]? : Option (Option SV)) with
  | some (some (SV.dat (D.int z))) => z.natAbs + 1
  | _ => 0
/-- the law's own promise: at whole numbers it gives True -/
def spLaw (K : PySem.W.Frag) : Sp := fun vs H Q _ => ∃ (a : Addr) (ns : List Int), vs = [.ref a] ∧ SqL K H a (ns.map V.int) ∧ ns.length ≤ 63 ∧ ∀ H', Q (.bl true) H'
section
variable {P : Program} {w : World} {K : PySem.W.Frag} {mg : Str → Option Value} {base : Heap} {C : Cl}
theorem reps_ints {F : Hp} : ∀ ns : List Int, Reps K C F (ns.map V.int) (ns.map D.int)
  | [] => .nil
  | n :: r => .cons (.int n) (reps_ints r)
/-- the law's own def: it makes True of each list of at most 63 whole numbers -/
theorem law_def {st : Stmt} {f : Addr} {fd : FuncData} {N : List Str} {x : Str} {k : Nat} {g : DS} (F : Fun K "law" "law" st f fd) (S : FnScope N [x] (defScope st))
    (body : ∀ (cdv : Value) (A : Around) (outer : List Env) (s : Shared) (H : Hp) (E : XK) (B : Bw), A.guards = some [] → Room k (A.deeper (envOfC "law" (defScope st) s.heap.objs.size f cdv)) → B.np = 1 →
      PDSs (cxOf CX0 P w K mg base N "law" (defScope st) f cdv A outer s H E).nox C B (fun _ _ _ _ => False) (defBody st) g)
    (true_ : ∀ ns : List Int, ns.length ≤ 63 → ∃ ρ, g (some (.dat (.wri (ns.map D.int))) :: List.replicate (N.length - 1) none) = some (.rt (.dat (.bl true)) ρ)) :
    FnG P w K mg base CX0 (k + 1) f fd [x] (spLaw K) := by
  refine okG F S (fun vs H Q E h => ?_) (fun cdv A outer s H vs Q E gd hr h => ?_)
  · obtain ⟨a, ns, rfl, _⟩ := h
    rfl
  obtain ⟨a, ns, rfl, sq, l, q⟩ := h
  refine ⟨_, body cdv A outer s H E ⟨fun _ => none, 1⟩ gd hr rfl, ?_⟩
  obtain ⟨ρ, e⟩ := true_ ns l
  -- the script alone is data: it is read where it stands
  have rep : Rep K C (fun b => if b = a then H b else none) (.ref a) (.wri (ns.map D.int)) := by
    refine .wri ?_ (reps_ints ns)
    rcases sq with (h | ⟨o, h⟩) | h
    · exact .inl (.inl ((if_pos rfl).trans h))
    · exact .inl (.inr ⟨o, (if_pos rfl).trans h⟩)
    · exact .inr h
  have slot : ∀ {i : Nat} {y : SV}, (some (.dat (.wri (ns.map D.int))) :: List.replicate (N.length - 1) none : Sl)[i]? = some (some y) → i = 0 ∧ y = .dat (.wri (ns.map D.int)) := by
    intro i y hy
    cases i with
    | zero => simp at hy; exact ⟨rfl, hy.symm⟩
    | succ i =>
      rw [List.getElem?_cons_succ, List.getElem?_replicate] at hy
      split at hy <;> cases hy
  refine ⟨some (.dat (.wri (ns.map D.int))) :: List.replicate (N.length - 1) none, fun b => if b = a then H b else none, ⟨?_, fun b o hb => ?_, fun i d hd => ?_, fun i m hm => ?_, fun i j b m m' hm => ?_, fun i m _ hm => ?_⟩, ?_⟩
  · show (L2.start N [V.ref a]).length = _
    unfold L2.start
    simp
  · have hb : (if b = a then H b else none) = some o := hb
    split at hb
    · exact hb
    · cases hb
  · obtain ⟨rfl, z⟩ := slot hd
    cases z
    exact ⟨_, rfl, rep⟩
  · obtain ⟨_, z⟩ := slot hm
    cases z
  · obtain ⟨_, z⟩ := slot hm
    cases z
  · obtain ⟨_, z⟩ := slot hm
    cases z
  · rw [e]
    intro v σ' F' H' p rv
    cases (show Rep K C F' v (.bl true) from rv)
    exact q H'
end
/-- the top's i-th statement -/
abbrev topOf (p : Program) (i : Nat) : Stmt := p.main.body.getD i (.Pass ⟨0, 0, 0, 0⟩)
end Pl
set_option Elab.async false
set_option linter.all false
set_option maxRecDepth 100000
set_option maxHeartbeats 4000000
/-! How what is made is reckoned out. -/
namespace Pl
open PySem PySem.Spec PyProof.Rows L2 Tk
section
variable {α β : Type} {f fa fb fo fi : DE} {fl : Ef (List RV)} {ρ ρ' : Sl} {r r1 r2 : RV} {d d' : D} {a b i j : Int} {x y : Str} {l l' : List D}
@[simp] theorem ev_bind (f : Ef α) (k : α → Ef β) (ρ : Sl) : bindE f k ρ = (match f ρ with
  | some (.ok a ρ') => k a ρ'
  | some (.exc c fs ρ') => some (.exc c fs ρ')
  | none => none) := rfl
@[simp] theorem ev_bindS (f : Ef α) (k : α → DS) (ρ : Sl) : bindS f k ρ = (match f ρ with
  | some (.ok a ρ') => k a ρ'
  | some (.exc c fs ρ') => some (.exc c fs ρ')
  | none => none) := rfl
@[simp] theorem ev_ret (a : α) (ρ : Sl) : retE a ρ = some (.ok a ρ) := rfl
@[simp] theorem ev_var (i : Nat) (ρ : Sl) : dVar i ρ = (match ρ[i]? with
  | some (some (.dat d)) => some (.ok (.dat d) ρ)
  | some (some (.own _)) => some (.ok (.bor i) ρ)
  | _ => none) := rfl
@[simp] theorem ev_bin (g : RV → RV → DE) (fa fb : DE) (ρ : Sl) : dBin g fa fb ρ = bindE fa (fun r1 => bindE fb fun r2 => g r1 r2) ρ := rfl
@[simp] theorem ev_lift2 (h : D → D → Option D) (r1 r2 : RV) (ρ : Sl) : lift2 h r1 r2 ρ = (match r1.see ρ, r2.see ρ with
  | some a, some b => (match h a b with
    | some d => some (.ok (.dat d) ρ)
    | none => none)
  | _, _ => none) := rfl
@[simp] theorem ev_hI (f : Int → Int → Option D) (i j : Int) : hI f (.int i) (.int j) = f i j := rfl
@[simp] theorem see_dat (ρ : Sl) (d : D) : RV.see ρ (.dat d) = some d := rfl
@[simp] theorem see_own (ρ : Sl) (m : MO) : RV.see ρ (.own m) = m.see := rfl
@[simp] theorem see_bor (ρ : Sl) (i : Nat) : RV.see ρ (.bor i) = slotSee ρ[i]? := rfl
@[simp] theorem see_mo (l : List D) : MO.see (.lst l) = some (.lst l) := rfl
@[simp] theorem see_slotO (m : MO) : slotSee (some (some (.own m))) = m.see := rfl
@[simp] theorem see_slotD (d : D) : slotSee (some (some (.dat d))) = some d := rfl
@[simp] theorem items_lst (l : List D) : D.items (.lst l) = some l := rfl
@[simp] theorem items_tup (l : List D) : D.items (.tup l) = some l := rfl
@[simp] theorem items_wri (l : List D) : D.items (.wri l) = some l := rfl
@[simp] theorem ev_items (ρ : Sl) (r : RV) : r.items ρ = (r.see ρ).bind D.items := rfl
@[simp] theorem ev_add (r1 r2 : RV) (ρ : Sl) : gAdd r1 r2 ρ = (match r1.see ρ, r2.see ρ with
  | some (.int a), some (.int b) => some (.ok (.dat (.int (a + b))) ρ)
  | some (.str a), some (.str b) => if a.length + b.length ≤ 10000 then some (.ok (.dat (.str (a ++ b))) ρ) else none
  | some (.lst a), some (.lst b) => if a.length + b.length ≤ 10000 then some (.ok (.own (.lst (a ++ b))) ρ) else none
  | some (.tup a), some (.tup b) => if a.length + b.length ≤ 10000 then some (.ok (.dat (.tup (a ++ b))) ρ) else none
  | _, _ => none) := rfl
@[simp] theorem ev_mul (r1 r2 : RV) (ρ : Sl) : gMul r1 r2 ρ = (match r1.see ρ, r2.see ρ with
  | some (.int a), some (.int b) => if cMul a b = true then some (.ok (.dat (.int (a * b))) ρ) else none
  | some (.lst a), some (.int b) => if decide (0 ≤ b) && decide (b ≤ 1000) && decide (a.length ≤ 10) then some (.ok (.own (.lst (List.replicate b.toNat a).flatten)) ρ) else none
  | some (.tup a), some (.int b) => if decide (0 < a.length) && decide (2 ≤ b) && decide (b ≤ 1000) && decide (a.length ≤ 10) then some (.ok (.dat (.tup (List.replicate b.toNat a).flatten)) ρ) else none
  | _, _ => none) := rfl
@[simp] theorem ev_ix (r1 r2 : RV) (ρ : Sl) : gIx r1 r2 ρ = (match r1.see ρ, r2.see ρ with
  | some d, some (.int i) => (match ixD d i with
    | some z => some (.ok (.dat z) ρ)
    | none => none)
  | _, _ => none) := rfl
@[simp] theorem ixD_lst (l : List D) (i : Int) : ixD (.lst l) i = atI l i := rfl
@[simp] theorem ixD_tup (l : List D) (i : Int) : ixD (.tup l) i = atI l i := rfl
@[simp] theorem ixD_wri (l : List D) (i : Int) : ixD (.wri l) i = atI l i := rfl
@[simp] theorem atI_0 {α : Type} (x : α) (l : List α) : atI (x :: l) 0 = some x := atI_nat (j := 0) rfl
@[simp] theorem atI_1 {α : Type} (x y : α) (l : List α) : atI (x :: y :: l) 1 = some y := atI_nat (j := 1) rfl
@[simp] theorem atI_2 {α : Type} (x y z : α) (l : List α) : atI (x :: y :: z :: l) 2 = some z := atI_nat (j := 2) rfl
theorem atI_of {α : Type} (l : List α) (i : Int) (h0 : 0 ≤ i) (h : i.toNat < l.length) : atI l i = some (l[i.toNat]'h) := by
  have := atI_nat (List.getElem?_eq_getElem h)
  rwa [Int.toNat_of_nonneg h0] at this
@[simp] theorem ixN_0 (n : Nat) : ixN (n + 1) 0 = some 0 := by simp [ixN]
@[simp] theorem ixN_1 (n : Nat) : ixN (n + 2) 1 = some 1 := by simp [ixN]; omega
@[simp] theorem ixN_2 (n : Nat) : ixN (n + 3) 2 = some 2 := by simp [ixN]; omega
@[simp] theorem ev_dCall (g : List RV → DE) (fl : Ef (List RV)) (ρ : Sl) : dCall g fl ρ = bindE fl g ρ := rfl
@[simp] theorem ev_on1 (h : D → Option D) (r : RV) (ρ : Sl) : on1 h [r] ρ = (match r.see ρ with
  | some a => (match h a with
    | some d => some (.ok (.dat d) ρ)
    | none => none)
  | none => none) := rfl
@[simp] theorem ev_on2 (h : D → D → Option D) (r r' : RV) (ρ : Sl) : on2 h [r, r'] ρ = (match r.see ρ, r'.see ρ with
  | some a, some b => (match h a b with
    | some d => some (.ok (.dat d) ρ)
    | none => none)
  | _, _ => none) := rfl
@[simp] theorem ev_dNil (ρ : Sl) : dNil ρ = some (.ok [] ρ) := rfl
@[simp] theorem ev_dCons (fa : DE) (fr : Ef (List RV)) (ρ : Sl) : dCons fa fr ρ = bindE fa (fun r => bindE fr fun rs => retE (r :: rs)) ρ := rfl
@[simp] theorem allDat_nil : allDat [] = some [] := rfl
@[simp] theorem allDat_cons (d : D) (rs : List RV) : allDat (.dat d :: rs) = (allDat rs).map fun ds => d :: ds := rfl
@[simp] theorem ev_dTup (fl : Ef (List RV)) (ρ : Sl) : dTup fl ρ = bindE fl (fun rs ρ => match allDat rs with
  | some ds => if ds.length ≤ 1000 then some (.ok (.dat (.tup ds)) ρ) else none
  | none => none) ρ := rfl
@[simp] theorem ev_dLst (fl : Ef (List RV)) (ρ : Sl) : dLst fl ρ = bindE fl (fun rs ρ => match allDat rs with
  | some ds => if ds.length ≤ 1000 then some (.ok (.own (.lst ds)) ρ) else none
  | none => none) ρ := rfl
@[simp] theorem ev_froze (f : DE) (ρ : Sl) : froze f ρ = bindE f (fun r ρ => match toDat r ρ with
  | some (.ok d ρ') => some (.ok (.dat d) ρ')
  | _ => none) ρ := rfl
@[simp] theorem toDat_dat (d : D) (ρ : Sl) : toDat (.dat d) ρ = some (.ok d ρ) := rfl
@[simp] theorem toDat_own (l : List D) (ρ : Sl) : toDat (.own (.lst l)) ρ = some (.ok (.lst l) ρ) := rfl
@[simp] theorem toDat_bor (i : Nat) (ρ : Sl) : toDat (.bor i) ρ = (match ρ[i]? with
    | some (some (.dat d)) => some (.ok d ρ)
    | some (some (.own m)) => m.fix.bind fun d => some (.ok d (ρ.set i (some (.dat d))))
    | _ => none) := rfl
@[simp] theorem fix_lst (l : List D) : MO.fix (.lst l) = some (.lst l) := rfl
@[simp] theorem ev_asB (f : DE) (ρ : Sl) : asB f ρ = bindE f (fun r ρ => match r.see ρ with
  | some (.bl b) => some (.ok b ρ)
  | _ => none) ρ := rfl
@[simp] theorem ev_andT (fa fb : Ef Bool) (ρ : Sl) : dAndT fa fb ρ = bindE fa (fun c => if c = true then fb else retE false) ρ := rfl
@[simp] theorem ev_orT (fa fb : Ef Bool) (ρ : Sl) : dOrT fa fb ρ = bindE fa (fun c => if c = true then retE true else fb) ρ := rfl
@[simp] theorem ev_notT (fa : Ef Bool) (ρ : Sl) : dNotT fa ρ = bindE fa (fun c => retE (!c)) ρ := rfl
@[simp] theorem ev_andV (fa fb : DE) (ρ : Sl) : dAndV fa fb ρ = bindE (asB fa) (fun c => if c = true then fb else retE (.dat (.bl false))) ρ := rfl
@[simp] theorem ev_orV (fa fb : DE) (ρ : Sl) : dOrV fa fb ρ = bindE (asB fa) (fun c => if c = true then retE (.dat (.bl true)) else fb) ρ := rfl
@[simp] theorem ev_notV (fa : DE) (ρ : Sl) : dNotV fa ρ = bindE (asB fa) (fun c => retE (.dat (.bl (!c)))) ρ := rfl
@[simp] theorem ev_ifE (fc : Ef Bool) (fa fb : DE) (ρ : Sl) : dIfE fc fa fb ρ = bindE fc (fun c => if c = true then fa else fb) ρ := rfl
@[simp] theorem ev_un (h : D → Option D) (f : DE) (ρ : Sl) : dUn h f ρ = bindE f (fun r ρ => match r.see ρ with
  | some a => (match h a with
    | some d => some (.ok (.dat d) ρ)
    | none => none)
  | none => none) ρ := rfl
@[simp] theorem hNeg_int (i : Int) : hNeg (.int i) = some (.int (-i)) := rfl
@[simp] theorem ev_meth (T : String) (g : RV → List RV → DE) (fo : DE) (fl : Ef (List RV)) (ρ : Sl) : dMeth T g fo fl ρ = bindE fo (fun r ρ => match r.see ρ with
  | some d => if tyOk T d = true then bindE fl (fun rs => g r rs) ρ else none
  | none => none) ρ := rfl
@[simp] theorem tyOk_lst (l : List D) : tyOk "list" (.lst l) = true := rfl
@[simp] theorem tyOk_str (z : Str) : tyOk "str" (.str z) = true := rfl
@[simp] theorem ev_ownL (i : Nat) (ρ : Sl) : ownL (.bor i) ρ = (match ρ[i]? with
    | some (some (.own (.lst l))) => some (i, l)
    | _ => none) := rfl
@[simp] theorem ev_append (r : RV) (rs : List RV) (ρ : Sl) : gAppend r rs ρ = (match ownL r ρ, rs with
  | some (i, l), [.dat d] => if l.length < 10000 then some (.ok (.dat .non) (ρ.set i (some (.own (.lst (l ++ [d])))))) else none
  | _, _ => none) := rfl
@[simp] theorem ev_extend (r : RV) (rs : List RV) (ρ : Sl) : gExtend r rs ρ = (match ownL r ρ, rs with
  | some (i, l), [r'] => (match r'.see ρ with
    | some (.lst l') => if l.length + l'.length ≤ 10000 then some (.ok (.dat .non) (ρ.set i (some (.own (.lst (l ++ l')))))) else none
    | _ => none)
  | _, _ => none) := rfl
@[simp] theorem ev_listOf (r : RV) (ρ : Sl) : gListOf [r] ρ = (match r.items ρ with
    | some l => some (.ok (.own (.lst l)) ρ)
    | none => none) := rfl
@[simp] theorem ev_tupOf (r : RV) (ρ : Sl) : gTupOf [r] ρ = (match r.see ρ with
    | some (.lst l) => some (.ok (.dat (.tup l)) ρ)
    | some (.tup l) => some (.ok (.dat (.tup l)) ρ)
    | _ => none) := rfl
@[simp] theorem ev_seq (g1 g2 : DS) (ρ : Sl) : seqS g1 g2 ρ = (match g1 ρ with
  | some (.nx ρ') => g2 ρ'
  | o => o) := rfl
@[simp] theorem ev_nx (ρ : Sl) : nxS ρ = some (.nx ρ) := rfl
@[simp] theorem ev_sExpr (f : DE) (ρ : Sl) : sExpr f ρ = bindS f (fun _ => nxS) ρ := rfl
@[simp] theorem ev_sRet (f : DE) (ρ : Sl) : sRet f ρ = bindS f (fun r ρ => some (.rt r ρ)) ρ := rfl
@[simp] theorem ev_sIf (fc : Ef Bool) (g1 g2 : DS) (ρ : Sl) : sIf fc g1 g2 ρ = bindS fc (fun c => if c = true then g1 else g2) ρ := rfl
@[simp] theorem ev_sSet (i np : Nat) (f : DE) (ρ : Sl) : sSet i np f ρ = bindS f (fun r => putR i np r) ρ := rfl
@[simp] theorem putR_dat (i np : Nat) (d : D) (ρ : Sl) : putR i np (.dat d) ρ = some (.nx (ρ.set i (some (.dat d)))) := rfl
@[simp] theorem putR_own (i np : Nat) (m : MO) (ρ : Sl) : putR i np (.own m) ρ = if np ≤ i then some (.nx (ρ.set i (some (.own m)))) else none := rfl
@[simp] theorem putR_bor (i np j : Nat) (ρ : Sl) : putR i np (.bor j) ρ = (match toDat (.bor j) ρ with
    | some (.ok d ρ') => some (.nx (ρ'.set i (some (.dat d))))
    | _ => none) := rfl
@[simp] theorem noBor_dat (d : D) : noBor (.dat d) = true := rfl
@[simp] theorem noBor_own (m : MO) : noBor (.own m) = true := rfl
@[simp] theorem ev_par (i j np : Nat) (fl : Ef (List RV)) (ρ : Sl) : sPar2 i j np fl ρ = bindS fl (fun rs => match rs with
  | [r, r'] => if noBor r && noBor r' then seqS (putR i np r) (putR j np r') else fun _ => none
  | _ => fun _ => none) ρ := rfl
@[simp] theorem ev_asg (h : D → Sl → Option Sl) (f : DE) (ρ : Sl) : sAsg h f ρ = bindS (froze f) (fun r ρ => match r with
  | .dat d => (match h d ρ with
    | some ρ' => some (.nx ρ')
    | none => none)
  | _ => none) ρ := rfl
@[simp] theorem ev_tgN (i : Nat) (d : D) (ρ : Sl) : tgN i d ρ = some (ρ.set i (some (.dat d))) := rfl
@[simp] theorem ev_tgT (js : List Nat) (ds : List D) (ρ : Sl) : tgT js (.tup ds) ρ = setDs js ds ρ := rfl
@[simp] theorem setDs_nil (ρ : Sl) : setDs [] [] ρ = some ρ := rfl
@[simp] theorem setDs_cons (j : Nat) (js : List Nat) (d : D) (ds : List D) (ρ : Sl) : setDs (j :: js) (d :: ds) ρ = setDs js ds (ρ.set j (some (.dat d))) := rfl
@[simp] theorem ev_store (f fo fi : DE) (ρ : Sl) : sStore f fo fi ρ = bindS (froze f) (fun rv => bindS fo fun ro => bindS fi fun ri ρ => match rv, ownL ro ρ, ri.see ρ with
  | .dat d, some (i, l), some (.int k) => (match ixN l.length k with
    | some j => some (.nx (ρ.set i (some (.own (.lst (l.set j d))))))
    | none => none)
  | _, _, _ => none) ρ := rfl
@[simp] theorem ev_dItems (f : DE) (ρ : Sl) : dItems f ρ = bindE (froze f) (fun r ρ => match r with
  | .dat (.lst l) => some (.ok l ρ)
  | .dat (.tup l) => some (.ok l ρ)
  | _ => none) ρ := rfl
@[simp] theorem ev_dEnum (f : DE) (ρ : Sl) : dEnum f ρ = bindE (dItems f) (fun l => retE (enumL l)) ρ := rfl
@[simp] theorem ev_range1 (f : DE) (ρ : Sl) : dRange1 f ρ = bindE f (fun r ρ => match r.see ρ with
  | some (.int j) => if j.natAbs ≤ 100000 then some (.ok (rangeL 0 j.toNat) ρ) else none
  | _ => none) ρ := rfl
@[simp] theorem ev_range2 (f f' : DE) (ρ : Sl) : dRange2 f f' ρ = bindE f (fun r => bindE f' fun r' ρ => match r.see ρ, r'.see ρ with
  | some (.int i), some (.int j) => if i.natAbs ≤ 100000 ∧ j.natAbs ≤ 100000 then some (.ok (rangeL i (j - i).toNat) ρ) else none
  | _, _ => none) ρ := rfl
@[simp] theorem ev_for (fi : Ef (List D)) (tg : D → Sl → Option Sl) (body : DS) (ρ : Sl) : sFor fi tg body ρ = bindS fi (fun ds => loopS tg body ds) ρ := rfl
@[simp] theorem ev_loopS_nil (tg : D → Sl → Option Sl) (body : DS) (ρ : Sl) : loopS tg body [] ρ = some (.nx ρ) := rfl
theorem ev_loopS_cons (tg : D → Sl → Option Sl) (body : DS) (d : D) (r : List D) (ρ : Sl) : loopS tg body (d :: r) ρ = (match tg d ρ with
    | none => none
    | some ρ1 => match body ρ1 with
      | some (.nx ρ2) => loopS tg body r ρ2
      | some (.ct ρ2) => loopS tg body r ρ2
      | some (.bk ρ2) => some (.nx ρ2)
      | o => o) := rfl
@[simp] theorem ev_while (μ : Sl → Nat) (test : Ef Bool) (body : DS) (ρ : Sl) : sWhile μ test body ρ = loopW test body (μ ρ) ρ := rfl
@[simp] theorem ev_lc (vs : List Nat) (fi : Ef (List D)) (tg : D → Sl → Option Sl) (ft : Ef Bool) (fe : DE) (ρ : Sl) : dLc vs fi tg ft fe ρ = bindE fi (fun ds ρ => loopC vs tg ft (froze fe) ds [] (wipeR ρ vs)) ρ := rfl
@[simp] theorem wipeR_nil (ρ : Sl) : wipeR ρ [] = ρ := rfl
@[simp] theorem wipeR_cons (ρ : Sl) (v : Nat) (vs : List Nat) : wipeR ρ (v :: vs) = (wipeR ρ vs).set v none := rfl
@[simp] theorem ev_yes (ρ : Sl) : yesT ρ = some (.ok true ρ) := rfl
@[simp] theorem ev_loopC_nil (vs : List Nat) (tg : D → Sl → Option Sl) (ft : Ef Bool) (fe : DE) (acc : List D) (ρ : Sl) : loopC vs tg ft fe [] acc ρ = some (.ok (.own (.lst acc)) ρ) := rfl
theorem ev_loopC_cons (vs : List Nat) (tg : D → Sl → Option Sl) (ft : Ef Bool) (fe : DE) (d : D) (r acc : List D) (ρ : Sl) : loopC vs tg ft fe (d :: r) acc ρ = (match tg d ρ with
    | none => none
    | some ρ1 => match ft ρ1 with
      | some (.ok true ρ2) => (match fe ρ2 with
        | some (.ok (.dat e) ρ3) => if acc.length < 10000 then loopC vs tg ft fe r (acc ++ [e]) (wipeR ρ3 vs) else none
        | _ => none)
      | some (.ok false ρ2) => loopC vs tg ft fe r acc (wipeR ρ2 vs)
      | _ => none) := rfl
@[simp] theorem ev_callF (f : DE) (rs : List RV) (ρ : Sl) : gCallF f rs ρ = (match takeArgs rs ρ with
  | some (as, ρd) => (match f as with
    | some (.ok (.dat d) fin) => some (.ok (.dat d) (giveBack rs as fin ρd))
    | some (.ok (.own m) fin) => some (.ok (.own m) (giveBack rs as fin ρd))
    | some (.exc c fs fin) => some (.exc c fs (giveBack rs as fin ρd))
    | _ => none)
  | none => none) := rfl
@[simp] theorem takeArgs_nil (ρ : Sl) : takeArgs [] ρ = some ([], ρ) := rfl
@[simp] theorem takeArgs_dat (d : D) (rs : List RV) (ρ : Sl) : takeArgs (.dat d :: rs) ρ = (match takeArgs rs ρ with
    | some (as, ρ') => some (some (.dat d) :: as, ρ')
    | none => none) := rfl
@[simp] theorem takeArgs_bor (i : Nat) (rs : List RV) (ρ : Sl) : takeArgs (.bor i :: rs) ρ = (match ρ[i]? with
    | some (some (.dat d)) => (match takeArgs rs ρ with
      | some (as, ρ') => some (some (.dat d) :: as, ρ')
      | none => none)
    | some (some (.own m)) => (match takeArgs rs (ρ.set i none) with
      | some (as, ρ') => some (some (.own m) :: as, ρ')
      | none => none)
    | _ => none) := rfl
@[simp] theorem giveBack_nil (as fin ρ : Sl) : giveBack [] as fin ρ = ρ := by unfold giveBack; cases as <;> cases fin <;> rfl
@[simp] theorem giveBack_dat (d : D) (rs : List RV) (o f : Option SV) (as fin ρ : Sl) : giveBack (.dat d :: rs) (o :: as) (f :: fin) ρ = giveBack rs as fin ρ := rfl
@[simp] theorem giveBack_own (i : Nat) (rs : List RV) (m m' : MO) (as fin ρ : Sl) : giveBack (.bor i :: rs) (some (.own m) :: as) (some (.own m') :: fin) ρ = giveBack rs as fin (ρ.set i (some (.own m'))) := rfl
@[simp] theorem ev_def (N n : Nat) (g : DS) (as : Sl) : callF N n g as = if as.length = n then (match g (as ++ List.replicate (N - n) none) with
    | some (.nx ρ) => some (.ok (.dat .non) (finOf n ρ))
    | some (.rt (.dat d) ρ) => some (.ok (.dat d) (finOf n ρ))
    | some (.rt (.own m) ρ) => some (.ok (.own m) (finOf n ρ))
    | some (.rt (.bor i) ρ) => (match ρ[i]? with
      | some (some (.dat d)) => some (.ok (.dat d) (finOf n ρ))
      | some (some (.own m)) => if n ≤ i then some (.ok (.own m) (finOf n ρ)) else none
      | _ => none)
    | some (.exc c fs ρ) => some (.exc c fs (finOf n ρ))
    | _ => none)
  else none := rfl
def keepO : Option SV → Option SV
  | some (.own m) => some (.own m)
  | _ => none
@[simp] theorem keepO_own (m : MO) : keepO (some (.own m)) = some (.own m) := rfl
@[simp] theorem keepO_dat (d : D) : keepO (some (.dat d)) = none := rfl
@[simp] theorem keepO_none : keepO none = none := rfl
theorem keepO_eq (a : Option SV) : (match (some a : Option (Option SV)) with | some (some (.own m)) => some (.own m) | _ => none) = keepO a := by
  rcases a with _ | (_ | _) <;> rfl
@[simp] theorem ev_finOf1 (a : Option SV) (ρ : Sl) : finOf 1 (a :: ρ) = [keepO a] := by rw [← keepO_eq]; rfl
@[simp] theorem ev_finOf2 (a b : Option SV) (ρ : Sl) : finOf 2 (a :: b :: ρ) = [keepO a, keepO b] := by rw [← keepO_eq, ← keepO_eq]; rfl
@[simp] theorem ev_finOf3 (a b c : Option SV) (ρ : Sl) : finOf 3 (a :: b :: c :: ρ) = [keepO a, keepO b, keepO c] := by rw [← keepO_eq, ← keepO_eq, ← keepO_eq]; rfl
@[simp] theorem ev_finOf4 (a b c d : Option SV) (ρ : Sl) : finOf 4 (a :: b :: c :: d :: ρ) = [keepO a, keepO b, keepO c, keepO d] := by rw [← keepO_eq, ← keepO_eq, ← keepO_eq, ← keepO_eq]; rfl
@[simp] theorem hLen_lst (l : List D) : hLen (.lst l) = some (.int l.length) := rfl
@[simp] theorem hLen_tup (l : List D) : hLen (.tup l) = some (.int l.length) := rfl
@[simp] theorem hLen_wri (l : List D) : hLen (.wri l) = some (.int l.length) := rfl
@[simp] theorem hAbs_int (i : Int) : hAbs (.int i) = some (.int (if i < 0 then -i else i)) := rfl
@[simp] theorem hInt_int (i : Int) : hInt (.int i) = some (.int i) := rfl
@[simp] theorem hInt_bl (b : Bool) : hInt (.bl b) = some (.int (if b then 1 else 0)) := rfl
@[simp] theorem hMax2_int (i j : Int) : hMax2 (.int i) (.int j) = some (.int (if j > i then j else i)) := rfl
@[simp] theorem hMin2_int (i j : Int) : hMin2 (.int i) (.int j) = some (.int (if j < i then j else i)) := rfl
@[simp] theorem hGcd_int (i j : Int) : hGcd (.int i) (.int j) = some (.int ((Nat.gcd i.natAbs j.natAbs : Nat) : Int)) := rfl
@[simp] theorem hLcm_int (i j : Int) : hLcm (.int i) (.int j) = if cLcm i j = true then some (.int ((Nat.lcm i.natAbs j.natAbs : Nat) : Int)) else none := rfl
@[simp] theorem hIsi_ty (a : D) (m : String) : hIsi a (.ty m) = if decide (m = "int") || decide (m = "bool") || decide (m = "str") || decide (m = "tuple") || decide (m = "list") then (kindD a).map fun n => .bl (isKind n m) else none := rfl
@[simp] theorem hIsN_non (a : D) : hIsN a .non = some (.bl (isNon a)) := rfl
@[simp] theorem hNotN_non (a : D) : hNotN a .non = some (.bl (!isNon a)) := rfl
@[simp] theorem hEq_ap (a b : D) : hEq a b = (dEq a b).map fun c => .bl c := rfl
@[simp] theorem hNe_ap (a b : D) : hNe a b = (dEq a b).map fun c => .bl !c := rfl
@[simp] theorem dEq_int (i j : Int) : dEq (.int i) (.int j) = some (decide (i = j)) := rfl
@[simp] theorem dEq_str (i j : Str) : dEq (.str i) (.str j) = some (decide (i = j)) := rfl
@[simp] theorem dEq_bl (i j : Bool) : dEq (.bl i) (.bl j) = some (decide (i = j)) := rfl
end
/-! ### bounds -/
theorem small_log {n k : Nat} (h : n < 2 ^ k) (h0 : 0 < k) : n.log2 < k := by
  by_cases hn : n = 0
  · subst hn
    simpa using h0
  · exact (Nat.log2_lt hn).mpr h
theorem cDiv_ok {i j : Int} (h0 : 0 < j) (h : j < 2 ^ 200) : cDiv i j = true := by
  unfold cDiv
  have : j.natAbs < 2 ^ 200 := by
    have : ((j.natAbs : Nat) : Int) < ((2 ^ 200 : Nat) : Int) := by
      rw [Int.natAbs_of_nonneg (Int.le_of_lt h0)]
      simpa using h
    exact Int.ofNat_lt.mp this
  have := small_log this (by decide)
  simp [h0]
  omega
theorem cMul_left {i j : Int} (h : i.natAbs < 2 ^ 64) : cMul i j = true := by
  unfold cMul
  rw [decide_eq_true h]
  rfl
theorem cMul_right {i j : Int} (h : j.natAbs < 2 ^ 64) : cMul i j = true := by
  unfold cMul
  rw [decide_eq_true h]
  simp
theorem cLcm_ok {i j : Int} (h : i.natAbs < 2 ^ 64) (h' : j.natAbs < 2 ^ 64) : cLcm i j = true := by
  unfold cLcm
  rw [decide_eq_true h, decide_eq_true h']
  rfl
end Pl
set_option Elab.async false
set_option linter.all false
set_option maxRecDepth 100000
set_option maxHeartbeats 4000000
/-! Loops by what stays true; fractions. -/
namespace Pl
open PySem PySem.Spec PyProof.Rows L2 Tk

/-! ### loops -/
theorem loopS_inv {tg : D → Sl → Option Sl} {body : DS} (I : List D → Sl → Prop) (step : ∀ d r ρ, I (d :: r) ρ → ∃ ρ1 ρ2, tg d ρ = some ρ1 ∧ (body ρ1 = some (.nx ρ2) ∨ body ρ1 = some (.ct ρ2)) ∧ I r ρ2) :
    ∀ (ds : List D) (ρ : Sl), I ds ρ → ∃ ρ', I [] ρ' ∧ loopS tg body ds ρ = some (.nx ρ')
  | [], ρ, h => ⟨ρ, h, rfl⟩
  | d :: r, ρ, h => by
    obtain ⟨ρ1, ρ2, e1, e2, h2⟩ := step d r ρ h
    obtain ⟨ρ', h', e'⟩ := loopS_inv I step r ρ2 h2
    refine ⟨ρ', h', ?_⟩
    rw [ev_loopS_cons, e1]
    rcases e2 with e2 | e2
    · simp [e2, e']
    · simp [e2, e']
theorem loopC_inv {vs : List Nat} {tg : D → Sl → Option Sl} {ft : Ef Bool} {fe : DE} (I : List D → List D → Sl → Prop)
    (step : ∀ d r acc ρ, I (d :: r) acc ρ → ∃ ρ1 ρ2, tg d ρ = some ρ1 ∧ ((ft ρ1 = some (.ok true ρ2) ∧ ∃ e ρ3, fe ρ2 = some (.ok (.dat e) ρ3) ∧ acc.length < 10000 ∧ I r (acc ++ [e]) (wipeR ρ3 vs)) ∨ (ft ρ1 = some (.ok false ρ2) ∧ I r acc (wipeR ρ2 vs)))) :
    ∀ (ds acc : List D) (ρ : Sl), I ds acc ρ → ∃ acc' ρ', I [] acc' ρ' ∧ loopC vs tg ft fe ds acc ρ = some (.ok (.own (.lst acc')) ρ')
  | [], acc, ρ, h => ⟨acc, ρ, h, rfl⟩
  | d :: r, acc, ρ, h => by
    obtain ⟨ρ1, ρ2, e1, h2⟩ := step d r acc ρ h
    rcases h2 with ⟨e2, e, ρ3, e3, l, h3⟩ | ⟨e2, h3⟩
    · obtain ⟨acc', ρ', h', e'⟩ := loopC_inv I step r _ _ h3
      refine ⟨acc', ρ', h', ?_⟩
      rw [ev_loopC_cons, e1]
      simp only [e2, e3, if_pos l]
      exact e'
    · obtain ⟨acc', ρ', h', e'⟩ := loopC_inv I step r _ _ h3
      refine ⟨acc', ρ', h', ?_⟩
      rw [ev_loopC_cons, e1]
      simp only [e2]
      exact e'
/-- a comprehension that changes nothing -/
theorem loopC_map {i : Nat} {fe : DE} (h : D → D) {ρ : Sl} (hρ : ∀ x, (ρ.set i x).set i none = ρ) : ∀ (ds acc : List D), (∀ d ∈ ds, fe (ρ.set i (some (.dat d))) = some (.ok (.dat (h d)) (ρ.set i (some (.dat d))))) → acc.length + ds.length ≤ 10000 →
    loopC [i] (tgN i) yesT fe ds acc ρ = some (.ok (.own (.lst (acc ++ ds.map h))) ρ)
  | [], acc, _, _ => by simp
  | d :: r, acc, hd, l => by
    rw [ev_loopC_cons]
    simp only [ev_tgN, ev_yes]
    rw [hd d List.mem_cons_self]
    simp only [List.length_cons] at l
    have l' : acc.length < 10000 := by omega
    simp only [if_pos l', wipeR_cons, wipeR_nil]
    rw [hρ, loopC_map h hρ r (acc ++ [h d]) (fun x hx => hd x (List.mem_cons_of_mem _ hx)) (by rw [List.length_append, List.length_singleton]; omega)]
    simp
/-- .. with a test -/
theorem loopC_filter {i : Nat} {ft : Ef Bool} {fe : DE} (t : D → Bool) (h : D → D) {ρ : Sl} (hρ : ∀ x, (ρ.set i x).set i none = ρ) : ∀ (ds acc : List D), (∀ d ∈ ds, ft (ρ.set i (some (.dat d))) = some (.ok (t d) (ρ.set i (some (.dat d))))) → (∀ d ∈ ds, t d = true → fe (ρ.set i (some (.dat d))) = some (.ok (.dat (h d)) (ρ.set i (some (.dat d))))) → acc.length + ds.length ≤ 10000 →
    loopC [i] (tgN i) ft fe ds acc ρ = some (.ok (.own (.lst (acc ++ (ds.filter t).map h))) ρ)
  | [], acc, _, _, _ => by simp
  | d :: r, acc, ht, hd, l => by
    rw [ev_loopC_cons]
    simp only [ev_tgN]
    rw [ht d List.mem_cons_self]
    simp only [List.length_cons] at l
    have l' : acc.length < 10000 := by omega
    have ht' := fun x hx => ht x (List.mem_cons_of_mem d hx)
    have hd' := fun x hx => hd x (List.mem_cons_of_mem d hx)
    cases c : t d with
    | true =>
      simp only []
      rw [hd d List.mem_cons_self c]
      simp only [if_pos l', wipeR_cons, wipeR_nil]
      rw [hρ, loopC_filter t h hρ r (acc ++ [h d]) ht' hd' (by rw [List.length_append, List.length_singleton]; omega)]
      simp [c]
    | false =>
      simp only [wipeR_cons, wipeR_nil]
      rw [hρ, loopC_filter t h hρ r acc ht' hd' (by omega)]
      simp [c]
theorem rangeL_length (lo : Int) (n : Nat) : (rangeL lo n).length = n := by simp [rangeL]
theorem rangeL_at {lo : Int} {n i : Nat} (h : i < n) : (rangeL lo n)[i]? = some (.int (lo + i)) := by simp [rangeL, h]

/-! ### fractions in lowest terms -/
def red (r : Rat) : D := .tup [.int r.num, .int (r.den : Int)]
theorem gcd_pos_right {t : Int} {b : Int} (h : 0 < b) : 0 < Nat.gcd t.natAbs b.natAbs := Nat.gcd_pos_of_pos_right _ (by omega)
theorem num_div {t b : Int} (h : 0 < b) : (Rat.divInt t b).num = t / ((Nat.gcd t.natAbs b.natAbs : Nat) : Int) := by
  rw [Rat.num_divInt, Int.sign_eq_one_of_pos h, Int.one_mul]
  show t / ((Nat.gcd b.natAbs t.natAbs : Nat) : Int) = _
  rw [Nat.gcd_comm]
theorem den_div {t b : Int} (h : 0 < b) : (((Rat.divInt t b).den : Nat) : Int) = b / ((Nat.gcd t.natAbs b.natAbs : Nat) : Int) := by
  rw [Rat.den_divInt, if_neg (by omega)]
  show ((b.natAbs / Nat.gcd b.natAbs t.natAbs : Nat) : Int) = _
  rw [Nat.gcd_comm, Int.natCast_ediv, Int.natAbs_of_nonneg (by omega)]
theorem red_div {t b : Int} (h : 0 < b) : red (Rat.divInt t b) = .tup [.int (t / ((Nat.gcd t.natAbs b.natAbs : Nat) : Int)), .int (b / ((Nat.gcd t.natAbs b.natAbs : Nat) : Int))] := by
  unfold red
  rw [num_div h, den_div h]
theorem den_le {t b : Int} (h : 0 < b) : (((Rat.divInt t b).den : Nat) : Int) ≤ b := by
  rw [den_div h]
  exact Int.ediv_le_self _ (by omega)
theorem num_le {t b : Int} (h : 0 < b) : (Rat.divInt t b).num.natAbs ≤ t.natAbs := by
  rw [num_div h, Int.natAbs_ediv_of_dvd (Int.ofNat_dvd_left.mpr (Nat.gcd_dvd_left _ _))]
  exact Nat.div_le_self _ _
theorem den_pos (r : Rat) : (0 : Int) < (r.den : Int) := by
  have := r.den_pos
  omega
theorem red_inj {r s : Rat} (h : red r = red s) : r = s := by
  unfold red at h
  injection h with h
  injection h with h1 h2
  injection h2 with h2 _
  injection h1 with h1
  injection h2 with h2
  rw [← Rat.num_divInt_den r, ← Rat.num_divInt_den s, h1, h2]
theorem cDiv_gcd {t b x : Int} (h : 0 < b) (h9 : b < 2 ^ 200) : cDiv x ((Nat.gcd t.natAbs b.natAbs : Nat) : Int) = true := by
  refine cDiv_ok (by have := gcd_pos_right (t := t) h; omega) ?_
  have : Nat.gcd t.natAbs b.natAbs ≤ b.natAbs := Nat.gcd_le_right _ (by omega)
  omega
/-- the sum of two fractions, reckoned as the laws do -/
theorem add_red (x y : Rat) : Rat.divInt (x.num * (y.den : Int) + y.num * (x.den : Int)) ((x.den : Int) * (y.den : Int)) = x + y := by
  have hx := den_pos x
  have hy := den_pos y
  rw [← Rat.divInt_add_divInt _ _ (by omega) (by omega), Rat.num_divInt_den, Rat.num_divInt_den]
theorem neg_red (x : Rat) : Rat.divInt (0 - x.num) (x.den : Int) = -x := by
  rw [Int.zero_sub, ← Rat.neg_divInt, Rat.num_divInt_den]
theorem int_red (z : Int) : Rat.divInt z 1 = (z : Rat) := by
  have := Rat.num_divInt_den (z : Rat)
  simpa using this
end Pl
set_option Elab.async false
set_option linter.all false
set_option maxRecDepth 100000
set_option maxHeartbeats 4000000
/-! How long data is when it is shown; == of data. -/
namespace Pl
open PySem PySem.Spec PyProof.Rows L2 Tk
theorem str_len (s : String) : (s : Str).length = s.length := by
  show (Str.ofString s).length = _
  rw [Str.ofString_eq_toList]
  simp [Str.length, String.length_toList]
theorem shown_nat {n k : Nat} (h : n < 10 ^ k) (h0 : 0 < k) : ((Nat.repr n : String) : Str).length ≤ k := by
  rw [str_len]
  exact (Nat.length_repr_le_iff h0).mpr h
theorem shown_int {i : Int} {k : Nat} (h : i.natAbs < 10 ^ k) (h0 : 0 < k) : ((toString i : String) : Str).length ≤ k + 1 := by
  rw [str_len]
  cases i with
  | ofNat n =>
    show (Nat.repr n).length ≤ _
    exact Nat.le_succ_of_le ((Nat.length_repr_le_iff h0).mpr h)
  | negSucc n =>
    show ("-" ++ Nat.repr (n + 1)).length ≤ _
    rw [String.length_append]
    have : (Nat.repr (n + 1)).length ≤ k := (Nat.length_repr_le_iff h0).mpr h
    have e : "-".length = 1 := rfl
    omega
theorem fine_whole {i : Int} {k : Nat} (h : i.natAbs < 10 ^ k) (h0 : 0 < k) (hk : k ≤ 480) : Fine (k + 1) 0 (.int i) := by
  refine ⟨?_, rfl, Nat.le_refl _, shown_int h h0, rfl⟩
  refine decide_eq_true ?_
  have h1 : i.natAbs < 2 ^ (k * 4) := by
    refine Nat.lt_of_lt_of_le h ?_
    rw [Nat.mul_comm, Nat.pow_mul]
    exact Nat.pow_le_pow_left (by decide) k
  have := small_log h1 (by omega)
  omega
/-- shown within 10000 signs -/
theorem hRepr_ok {d : D} {m k : Nat} (h : d.isPy = true) (f : Fine m k d.py) (hm : m ≤ 10000) (hk : k ≤ 60) : hRepr d = some (.str d.py.shown) := by
  unfold hRepr
  rw [if_pos]
  simp only [Bool.and_eq_true, decide_eq_true_eq, Bool.not_eq_true']
  exact ⟨⟨⟨⟨h, f.shows⟩, f.plain⟩, Nat.le_trans f.dep hk⟩, Nat.le_trans f.len hm⟩
theorem fine_red {r : Rat} {k : Nat} (h : r.num.natAbs < 10 ^ k) (h' : r.den < 10 ^ k) (h0 : 0 < k) (hk : k ≤ 480) : Fine ((k + 1 + 2) * 2 + 2) 1 (red r).py := by
  have f : ∀ d ∈ [PyData.int r.num, PyData.int (r.den : Int)], Fine (k + 1) 0 d := by
    intro d hd
    simp only [List.mem_cons, List.not_mem_nil, or_false] at hd
    rcases hd with rfl | rfl
    · exact fine_whole h h0 hk
    · exact fine_whole (by simpa using h') h0 hk
  exact Fine.tuple f

/-! ### == -/
mutual
/-- no bools within: == is what it seems -/
def D.pure : D → Bool
  | .int _ => true
  | .str _ => true
  | .non => true
  | .lst l => D.pures l
  | .tup l => D.pures l
  | _ => false
def D.pures : List D → Bool
  | [] => true
  | d :: r => d.pure && D.pures r
end
mutual
theorem eqv_pure : ∀ (a b : D), a.pure = true → b.pure = true → (PyData.eqv a.py b.py = true ↔ a = b)
  | .int i, b, _, hb => by cases b <;> simp [D.pure, D.py, PyData.eqv] at hb ⊢
  | .str x, b, _, hb => by cases b <;> simp [D.pure, D.py, PyData.eqv] at hb ⊢
  | .non, b, _, hb => by cases b <;> simp [D.pure, D.py, PyData.eqv] at hb ⊢
  | .lst l, b, ha, hb => by
    cases b with
    | lst l' => simp only [D.py, PyData.eqv, D.lst.injEq]; exact eqvs_pure l l' ha hb
    | _ => simp [D.pure, D.py, PyData.eqv] at hb ⊢
  | .tup l, b, ha, hb => by
    cases b with
    | tup l' => simp only [D.py, PyData.eqv, D.tup.injEq]; exact eqvs_pure l l' ha hb
    | _ => simp [D.pure, D.py, PyData.eqv] at hb ⊢
  | .bl _, _, ha, _ => by cases ha
  | .wri _, _, ha, _ => by cases ha
  | .obj _ _, _, ha, _ => by cases ha
  | .ty _, _, ha, _ => by cases ha
  | .cls _, _, ha, _ => by cases ha
theorem eqvs_pure : ∀ (a b : List D), D.pures a = true → D.pures b = true → (PyData.eqvAll (D.pys a) (D.pys b) = true ↔ a = b)
  | [], [], _, _ => by simp [D.pys, PyData.eqvAll]
  | [], _ :: _, _, _ => by simp [D.pys, PyData.eqvAll]
  | _ :: _, [], _, _ => by simp [D.pys, PyData.eqvAll]
  | x :: xs, y :: ys, ha, hb => by
    rw [D.pures, Bool.and_eq_true] at ha hb
    simp only [D.pys, PyData.eqvAll, Bool.and_eq_true, List.cons.injEq]
    rw [eqv_pure x y ha.1 hb.1, eqvs_pure xs ys ha.2 hb.2]
end
mutual
/-- how deep -/
def D.deep : D → Nat
  | .lst l => D.deeps l + 1
  | .tup l => D.deeps l + 1
  | _ => 0
def D.deeps : List D → Nat
  | [] => 0
  | d :: r => max d.deep (D.deeps r)
end
mutual
/-- data of whole numbers, None, lists and tuples alone (no texts) -/
def D.num : D → Bool
  | .int _ => true
  | .non => true
  | .bl _ => true
  | .lst l => D.nums_ l
  | .tup l => D.nums_ l
  | _ => false
def D.nums_ : List D → Bool
  | [] => true
  | d :: r => d.num && D.nums_ r
end
mutual
theorem num_plain : ∀ d : D, d.num = true → d.isPy = true ∧ d.py.canLay0 = true ∧ d.py.depth = d.deep
  | .int i, _ => ⟨rfl, rfl, rfl⟩
  | .bl i, _ => ⟨rfl, rfl, rfl⟩
  | .non, _ => ⟨rfl, rfl, rfl⟩
  | .lst l, h => by
    obtain ⟨a, b, c⟩ := nums_plain l h
    exact ⟨a, by simpa [D.py, PyData.canLay0] using b, by simp [D.py, PyData.depth, D.deep, c]⟩
  | .tup l, h => by
    obtain ⟨a, b, c⟩ := nums_plain l h
    exact ⟨a, by simpa [D.py, PyData.canLay0] using b, by simp [D.py, PyData.depth, D.deep, c]⟩
  | .str _, h => by cases h
  | .wri _, h => by cases h
  | .obj _ _, h => by cases h
  | .ty _, h => by cases h
  | .cls _, h => by cases h
theorem nums_plain : ∀ l : List D, D.nums_ l = true → D.arePy l = true ∧ PyData.canLayAll0 (D.pys l) = true ∧ PyData.depthAll (D.pys l) = D.deeps l
  | [], _ => ⟨rfl, rfl, rfl⟩
  | d :: r, h => by
    rw [D.nums_, Bool.and_eq_true] at h
    obtain ⟨a, b, c⟩ := num_plain d h.1
    obtain ⟨a', b', c'⟩ := nums_plain r h.2
    exact ⟨by simp [D.arePy, a, a'], by simp [D.pys, PyData.canLayAll0, b, b'], by simp [D.pys, PyData.depthAll, D.deeps, c, c']⟩
end
theorem plain_num {d : D} (h : d.num = true) (hd : d.deep ≤ 64) : d.plain = true := by
  obtain ⟨a, b, c⟩ := num_plain d h
  unfold D.plain SeqAt.shaped
  rw [a, b, c]
  simp [hd]
/-- lists or tuples of whole numbers, None and such: == -/
theorem dEq_num {a b : D} (ha : a.num = true) (hb : b.num = true) (pa : a.pure = true) (pb : b.pure = true) (da : a.deep ≤ 64) (db : b.deep ≤ 64) (n : sEq a b = none) {c : Bool} (h : c = true ↔ a = b) : dEq a b = some c := by
  unfold dEq
  rw [n, plain_num ha da, plain_num hb db]
  show some _ = some c
  congr 1
  rw [Bool.eq_iff_iff, eqv_pure a b pa pb, h]
theorem dEq_same {a : D} (ha : a.num = true) (pa : a.pure = true) (da : a.deep ≤ 64) (n : sEq a a = none) : dEq a a = some true := dEq_num ha ha pa pa da da n (by simp)
end Pl
set_option Elab.async false
set_option linter.all false
set_option maxRecDepth 100000
set_option maxHeartbeats 8000000
namespace K35
open PySem PySem.Spec PyProof.Rows L2 Tk Pl

abbrev s_is_pair : Stmt := topOf PySem.Challenge.pw_talkmeans_k35_spreads 2
abbrev N_is_pair : List Str := ["value"]
abbrev P_is_pair : List Str := ["value"]
def g_is_pair : DS :=
  sRet (dAndV (dCall (on2 hIsi) (dCons (dVar 0) (dCons (retE (.dat (.ty "tuple"))) (dNil)))) (dBin gEq (dCall (on1 hLen) (dCons (dVar 0) (dNil))) (retE (.dat (.int 2)))))
def F_is_pair : DE := callF 1 1 g_is_pair
theorem ok_is_pair {P : Program} {w : World} {K : PySem.W.Frag} {mg : Str → Option Value} {base : Heap} {C : Cl} {f : Addr} {fd : FuncData} (F0 : Fun K "is_pair" "is_pair" s_is_pair f fd) (mf : mg "is_pair" = some (.ref f)) (m_isinstance : mg "isinstance" = none) (m_tuple : mg "tuple" = none) (m_len : mg "len" = none) : DefOk P w K mg base C 1 "is_pair" P_is_pair F_is_pair := by
  have sc : FnScope N_is_pair P_is_pair (defScope s_is_pair) := ⟨rfl, rfl, rfl, by decide +kernel, rfl, by decide +kernel, by decide +kernel⟩
  refine ⟨f, fd, def_ok (N := N_is_pair) (ps := P_is_pair) (g := g_is_pair) F0 sc rfl fun cdv A outer s H E B gd hr hn => ?_, F0.binds fun _ _ _ _ _ _ us hl => match us, hl with | [_], _ => rfl, F0.kp, mf⟩
  have tk := takes_of (X := cxOf (L2.CX P w) P w K mg base N_is_pair "is_pair" (defScope s_is_pair) f cdv A outer s H E) rfl rfl rfl rfl
  have hp := passes_of (X := cxOf (L2.CX P w) P w K mg base N_is_pair "is_pair" (defScope s_is_pair) f cdv A outer s H E) rfl
  have hu := hr.units
  exact pds_one (pds_ret (pd_and (pd_callB call_isi o_isi (by rfl) m_isinstance (by decide +kernel) (pda_cons (pd_var (pv 0)) (pda_cons (pd_ty rfl m_tuple (by decide +kernel)) (pda_nil)))) (pd_one (pd_cmp (op_eqA hu) o_eq (pd_callB call_len o_len (by rfl) m_len (by decide +kernel) (pda_cons (pd_var (pv 0)) (pda_nil))) (pd_int) (nomark _)))))
abbrev s_common_multiple : Stmt := topOf PySem.Challenge.pw_talkmeans_k35_spreads 3
abbrev N_common_multiple : List Str := ["numbers", "multiple", "number"]
abbrev P_common_multiple : List Str := ["numbers"]
def b_common_multiple_1 : DS :=
  sSet 1 1 (dCall (on2 hLcm) (dCons (dVar 1) (dCons (dVar 2) (dNil))))
def g_common_multiple : DS :=
  seqS (sSet 1 1 (retE (.dat (.int 1)))) <|
  seqS (sFor (dItems (dVar 0)) (tgN 2) (b_common_multiple_1)) <|
  sRet (dVar 1)
def F_common_multiple : DE := callF 3 1 g_common_multiple
theorem ok_common_multiple {P : Program} {w : World} {K : PySem.W.Frag} {mg : Str → Option Value} {base : Heap} {C : Cl} {f : Addr} {fd : FuncData} (F0 : Fun K "common_multiple" "common_multiple" s_common_multiple f fd) (mf : mg "common_multiple" = some (.ref f)) (m_lcm : mg "lcm" = some (.builtin "math.lcm")) : DefOk P w K mg base C 1 "common_multiple" P_common_multiple F_common_multiple := by
  have sc : FnScope N_common_multiple P_common_multiple (defScope s_common_multiple) := ⟨rfl, rfl, rfl, by decide +kernel, rfl, by decide +kernel, by decide +kernel⟩
  refine ⟨f, fd, def_ok (N := N_common_multiple) (ps := P_common_multiple) (g := g_common_multiple) F0 sc rfl fun cdv A outer s H E B gd hr hn => ?_, F0.binds fun _ _ _ _ _ _ us hl => match us, hl with | [_], _ => rfl, F0.kp, mf⟩
  have tk := takes_of (X := cxOf (L2.CX P w) P w K mg base N_common_multiple "common_multiple" (defScope s_common_multiple) f cdv A outer s H E) rfl rfl rfl rfl
  have hp := passes_of (X := cxOf (L2.CX P w) P w K mg base N_common_multiple "common_multiple" (defScope s_common_multiple) f cdv A outer s H E) rfl
  have hu := hr.units
  exact pds_cons (pds_set (i := 1) (np := 1) hn sc.nd rfl (.inl rfl) (pd_int))
    (pds_cons (pds_for (js := [2]) hp rfl (pdi_seq (pd_var (pv 0))) (pdg_name (pg_name (i := 2) sc.nd rfl (.inl rfl)))
      (pds_one (pds_set (i := 1) (np := 1) hn sc.nd rfl (.inl rfl) (pd_callM cr_lcm o_lcm rfl m_lcm (pda_cons (pd_var (pv 1)) (pda_cons (pd_var (pv 2)) (pda_nil)))))))
    (pds_one (pds_ret (pd_var (pv 1)))))
abbrev s_lowest : Stmt := topOf PySem.Challenge.pw_talkmeans_k35_spreads 4
abbrev N_lowest : List Str := ["top", "bottom", "divisor"]
abbrev P_lowest : List Str := ["top", "bottom"]
def g_lowest : DS :=
  seqS (sSet 2 2 (dCall (on2 hGcd) (dCons (dVar 0) (dCons (dVar 1) (dNil))))) <|
  sRet (dTup (dCons (dBin gFdiv (dVar 0) (dVar 2)) (dCons (dBin gFdiv (dVar 1) (dVar 2)) (dNil))))
def F_lowest : DE := callF 3 2 g_lowest
theorem ok_lowest {P : Program} {w : World} {K : PySem.W.Frag} {mg : Str → Option Value} {base : Heap} {C : Cl} {f : Addr} {fd : FuncData} (F0 : Fun K "lowest" "lowest" s_lowest f fd) (mf : mg "lowest" = some (.ref f)) (m_gcd : mg "gcd" = some (.builtin "math.gcd")) : DefOk P w K mg base C 1 "lowest" P_lowest F_lowest := by
  have sc : FnScope N_lowest P_lowest (defScope s_lowest) := ⟨rfl, rfl, rfl, by decide +kernel, rfl, by decide +kernel, by decide +kernel⟩
  refine ⟨f, fd, def_ok (N := N_lowest) (ps := P_lowest) (g := g_lowest) F0 sc rfl fun cdv A outer s H E B gd hr hn => ?_, F0.binds fun _ _ _ _ _ _ us hl => match us, hl with | [_, _], _ => rfl, F0.kp, mf⟩
  have tk := takes_of (X := cxOf (L2.CX P w) P w K mg base N_lowest "lowest" (defScope s_lowest) f cdv A outer s H E) rfl rfl rfl rfl
  have hp := passes_of (X := cxOf (L2.CX P w) P w K mg base N_lowest "lowest" (defScope s_lowest) f cdv A outer s H E) rfl
  have hu := hr.units
  exact pds_cons (pds_set (i := 2) (np := 2) hn sc.nd rfl (.inl rfl) (pd_callM cr_gcd o_gcd rfl m_gcd (pda_cons (pd_var (pv 0)) (pda_cons (pd_var (pv 1)) (pda_nil)))))
    (pds_one (pds_ret (pd_tup (pda_cons (pd_bin op_fdivW o_fdiv (pd_var (pv 0)) (pd_var (pv 2))) (pda_cons (pd_bin op_fdivW o_fdiv (pd_var (pv 1)) (pd_var (pv 2))) (pda_nil))))))
abbrev s_as_pair : Stmt := topOf PySem.Challenge.pw_talkmeans_k35_spreads 5
abbrev N_as_pair : List Str := ["value"]
abbrev P_as_pair : List Str := ["value"]
def g_as_pair : DS :=
  seqS (sIf (asB (dFn F_is_pair (dCons (froze (dVar 0)) (dNil)))) (sRet (dFn F_lowest (dCons (dBin gIx (dVar 0) (retE (.dat (.int 0)))) (dCons (dBin gIx (dVar 0) (retE (.dat (.int 1)))) (dNil))))) (nxS)) <|
  sRet (dTup (dCons (froze (dVar 0)) (dCons (retE (.dat (.int 1))) (dNil))))
def F_as_pair : DE := callF 1 1 g_as_pair
theorem ok_as_pair {P : Program} {w : World} {K : PySem.W.Frag} {mg : Str → Option Value} {base : Heap} {C : Cl} {f : Addr} {fd : FuncData} (F0 : Fun K "as_pair" "as_pair" s_as_pair f fd) (mf : mg "as_pair" = some (.ref f)) (h_is_pair : DefOk P w K mg base C 1 "is_pair" P_is_pair F_is_pair) (h_lowest : DefOk P w K mg base C 1 "lowest" P_lowest F_lowest) : DefOk P w K mg base C 2 "as_pair" P_as_pair F_as_pair := by
  have sc : FnScope N_as_pair P_as_pair (defScope s_as_pair) := ⟨rfl, rfl, rfl, by decide +kernel, rfl, by decide +kernel, by decide +kernel⟩
  refine ⟨f, fd, def_ok (N := N_as_pair) (ps := P_as_pair) (g := g_as_pair) F0 sc rfl fun cdv A outer s H E B gd hr hn => ?_, F0.binds fun _ _ _ _ _ _ us hl => match us, hl with | [_], _ => rfl, F0.kp, mf⟩
  have tk := takes_of (X := cxOf (L2.CX P w) P w K mg base N_as_pair "as_pair" (defScope s_as_pair) f cdv A outer s H E) rfl rfl rfl rfl
  have hp := passes_of (X := cxOf (L2.CX P w) P w K mg base N_as_pair "as_pair" (defScope s_as_pair) f cdv A outer s H E) rfl
  have hu := hr.units
  exact pds_cons (pds_if (pdt_val (pd_fn h_is_pair gd (hr.mono (by decide)) tk rfl (pda_cons (pd_frz (pd_var (pv 0))) (pda_nil))))
      (pds_one (pds_ret (pd_fn h_lowest gd (hr.mono (by decide)) tk rfl (pda_cons (pd_ixR ix_seq o_ix (pd_var (pv 0)) (pd_int) (fun _ _ => rfl)) (pda_cons (pd_ixR ix_seq o_ix (pd_var (pv 0)) (pd_int) (fun _ _ => rfl)) (pda_nil))))))
      (pds_nil))
    (pds_one (pds_ret (pd_tup (pda_cons (pd_frz (pd_var (pv 0))) (pda_cons (pd_int) (pda_nil))))))
abbrev s_even_tops : Stmt := topOf PySem.Challenge.pw_talkmeans_k35_spreads 6
abbrev N_even_tops : List Str := ["pairs", "bottom", "pair"]
abbrev P_even_tops : List Str := ["pairs"]
def g_even_tops : DS :=
  seqS (sSet 1 1 (dFn F_common_multiple (dCons (froze (dLc [2] (dItems (dVar 0)) (tgN 2) (yesT) (dBin gIx (dVar 2) (retE (.dat (.int 1)))))) (dNil)))) <|
  sRet (dTup (dCons (froze (dLc [2] (dItems (dVar 0)) (tgN 2) (yesT) (dBin gMul (dBin gIx (dVar 2) (retE (.dat (.int 0)))) (dBin gFdiv (dVar 1) (dBin gIx (dVar 2) (retE (.dat (.int 1)))))))) (dCons (froze (dVar 1)) (dNil))))
def F_even_tops : DE := callF 3 1 g_even_tops
theorem ok_even_tops {P : Program} {w : World} {K : PySem.W.Frag} {mg : Str → Option Value} {base : Heap} {C : Cl} {f : Addr} {fd : FuncData} (F0 : Fun K "even_tops" "even_tops" s_even_tops f fd) (mf : mg "even_tops" = some (.ref f)) (h_common_multiple : DefOk P w K mg base C 1 "common_multiple" P_common_multiple F_common_multiple) : DefOk P w K mg base C 2 "even_tops" P_even_tops F_even_tops := by
  have sc : FnScope N_even_tops P_even_tops (defScope s_even_tops) := ⟨rfl, rfl, rfl, by decide +kernel, rfl, by decide +kernel, by decide +kernel⟩
  refine ⟨f, fd, def_ok (N := N_even_tops) (ps := P_even_tops) (g := g_even_tops) F0 sc rfl fun cdv A outer s H E B gd hr hn => ?_, F0.binds fun _ _ _ _ _ _ us hl => match us, hl with | [_], _ => rfl, F0.kp, mf⟩
  have tk := takes_of (X := cxOf (L2.CX P w) P w K mg base N_even_tops "even_tops" (defScope s_even_tops) f cdv A outer s H E) rfl rfl rfl rfl
  have hp := passes_of (X := cxOf (L2.CX P w) P w K mg base N_even_tops "even_tops" (defScope s_even_tops) f cdv A outer s H E) rfl
  have hu := hr.units
  exact pds_cons (pds_set (i := 1) (np := 1) hn sc.nd rfl (.inr rfl) (pd_fn h_common_multiple gd (hr.mono (by decide)) tk rfl (pda_cons (pd_frz (pd_lc (own := [("pair", 2)]) (js := [2]) (by rfl) sc.nd (pdi_seq (pd_var (pv 0))) (blkOk_by (N := N_even_tops) (sc := defScope s_even_tops) (by decide +kernel)) (by decide) (fun _ _ _ _ _ => pdg_name (pg_name (i := 2) sc.nd rfl (.inl rfl))) (fun _ _ _ _ _ => pts_yes) (fun _ _ _ _ _ => pd_ixR ix_seq o_ix (pd_var (pv 2)) (pd_int) (fun _ _ => rfl)))) (pda_nil))))
    (pds_one (pds_ret (pd_tup (pda_cons (pd_frz (pd_lc (own := [("pair", 2)]) (js := [2]) (by rfl) sc.nd (pdi_seq (pd_var (pv 0))) (blkOk_by (N := N_even_tops) (sc := defScope s_even_tops) (by decide +kernel)) (by decide) (fun _ _ _ _ _ => pdg_name (pg_name (i := 2) sc.nd rfl (.inl rfl))) (fun _ _ _ _ _ => pts_yes) (fun _ _ _ _ _ => pd_bin op_mulA o_mul (pd_ixR ix_seq o_ix (pd_var (pv 2)) (pd_int) (fun _ _ => rfl)) (pd_bin op_fdivW o_fdiv (pd_var (pv 1)) (pd_ixR ix_seq o_ix (pd_var (pv 2)) (pd_int) (fun _ _ => rfl)))))) (pda_cons (pd_frz (pd_var (pv 1))) (pda_nil))))))
abbrev s_spread : Stmt := topOf PySem.Challenge.pw_talkmeans_k35_spreads 8
abbrev N_spread : List Str := ["numbers", "tops", "bottom", "value"]
abbrev P_spread : List Str := ["numbers"]
def g_spread : DS :=
  seqS (sAsg (tgT [1, 2]) (dFn F_even_tops (dCons (froze (dLc [3] (dItems (dVar 0)) (tgN 3) (yesT) (dFn F_as_pair (dCons (froze (dVar 3)) (dNil))))) (dNil)))) <|
  sRet (dFn F_lowest (dCons (dBin gSub (dCall (on1 hMaxL) (dCons (dVar 1) (dNil))) (dCall (on1 hMinL) (dCons (dVar 1) (dNil)))) (dCons (froze (dVar 2)) (dNil))))
def F_spread : DE := callF 4 1 g_spread
theorem ok_spread {P : Program} {w : World} {K : PySem.W.Frag} {mg : Str → Option Value} {base : Heap} {C : Cl} {f : Addr} {fd : FuncData} (F0 : Fun K "spread" "spread" s_spread f fd) (mf : mg "spread" = some (.ref f)) (h_even_tops : DefOk P w K mg base C 2 "even_tops" P_even_tops F_even_tops) (h_as_pair : DefOk P w K mg base C 2 "as_pair" P_as_pair F_as_pair) (h_lowest : DefOk P w K mg base C 1 "lowest" P_lowest F_lowest) (m_max : mg "max" = none) (m_min : mg "min" = none) : DefOk P w K mg base C 3 "spread" P_spread F_spread := by
  have sc : FnScope N_spread P_spread (defScope s_spread) := ⟨rfl, rfl, rfl, by decide +kernel, rfl, by decide +kernel, by decide +kernel⟩
  refine ⟨f, fd, def_ok (N := N_spread) (ps := P_spread) (g := g_spread) F0 sc rfl fun cdv A outer s H E B gd hr hn => ?_, F0.binds fun _ _ _ _ _ _ us hl => match us, hl with | [_], _ => rfl, F0.kp, mf⟩
  have tk := takes_of (X := cxOf (L2.CX P w) P w K mg base N_spread "spread" (defScope s_spread) f cdv A outer s H E) rfl rfl rfl rfl
  have hp := passes_of (X := cxOf (L2.CX P w) P w K mg base N_spread "spread" (defScope s_spread) f cdv A outer s H E) rfl
  have hu := hr.units
  exact pds_cons (pds_asg (js := [1, 2]) (pd_fn h_even_tops gd (hr.mono (by decide)) tk rfl (pda_cons (pd_frz (pd_lc (own := [("value", 3)]) (js := [3]) (by rfl) sc.nd (pdi_seq (pd_var (pv 0))) (blkOk_by (N := N_spread) (sc := defScope s_spread) (by decide +kernel)) (by decide) (fun _ _ _ _ _ => pdg_name (pg_name (i := 3) sc.nd rfl (.inl rfl))) (fun _ _ _ _ _ => pts_yes) (fun _ _ _ _ _ => pd_fn h_as_pair gd (hr.mono (by decide)) takes0 rfl (pda_cons (pd_frz (pd_var (pv 3))) (pda_nil))))) (pda_nil))) (pdg_tup rfl (pdgs_cons (pg_name (i := 1) sc.nd rfl (.inl rfl)) (pdgs_cons (pg_name (i := 2) sc.nd rfl (.inl rfl)) (pdgs_nil)))))
    (pds_one (pds_ret (pd_fn h_lowest gd (hr.mono (by decide)) tk rfl (pda_cons (pd_bin op_sub o_sub (pd_callB (cr_max rfl) o_maxL (by rfl) m_max (by decide +kernel) (pda_cons (pd_var (pv 1)) (pda_nil))) (pd_callB (cr_min rfl) o_minL (by rfl) m_min (by decide +kernel) (pda_cons (pd_var (pv 1)) (pda_nil)))) (pda_cons (pd_frz (pd_var (pv 2))) (pda_nil))))))
abbrev s__law_box : Stmt := topOf PySem.Challenge.pw_talkmeans_k35_spreads 10
abbrev N__law_box : List Str := ["_law_script", "_law_k", "_law_own", "_law_cell", "_law_seed"]
abbrev P__law_box : List Str := ["_law_script", "_law_k", "_law_own"]
def g__law_box : DS :=
  seqS (sSet 3 3 (dBin gAdd (dBin gAdd (dBin gMul (retE (.dat (.int 9001))) (dVar 1)) (dBin gMul (retE (.dat (.int 104827))) (dVar 2))) (retE (.dat (.int 89))))) <|
  seqS (sIf (asB (dBin gLt (dVar 1) (dCall (on1 hLen) (dCons (dVar 0) (dNil))))) (sSet 3 3 (dCall (on1 hAbs) (dCons (dBin gIx (dVar 0) (dVar 1)) (dNil)))) (sIf (asB (dBin gGt (dCall (on1 hLen) (dCons (dVar 0) (dNil))) (retE (.dat (.int 0))))) (sSet 3 3 (dBin gAdd (dVar 3) (dBin gMul (dBin gMod (dCall (on1 hInt) (dCons (dCall (on1 hAbs) (dCons (dBin gIx (dVar 0) (dBin gMod (dCall (on1 hInt) (dCons (dVar 1) (dNil))) (dCall (on1 hLen) (dCons (dVar 0) (dNil))))) (dNil))) (dNil))) (retE (.dat (.int 2147483629)))) (retE (.dat (.int 69827)))))) (nxS))) <|
  seqS (sSet 4 3 (dBin gAdd (dBin gMod (dCall (on1 hInt) (dCons (dBin gAdd (dBin gMul (dBin gMod (dCall (on1 hInt) (dCons (dVar 3) (dNil))) (retE (.dat (.int 2147483629)))) (retE (.dat (.int 48271)))) (dBin gMul (retE (.dat (.int 40692))) (dBin gAdd (dVar 1) (dBin gMul (retE (.dat (.int 11))) (dVar 2))))) (dNil))) (retE (.dat (.int 2147483629)))) (retE (.dat (.int 1))))) <|
  sRet (dLst (dCons (dBin gIx (dLst (dCons (retE (.dat (.int 0))) (dCons (froze (dVar 3)) (dNil)))) (dCall (on1 hInt) (dCons (dBin gGe (dVar 3) (dBin gPow (retE (.dat (.int 10))) (retE (.dat (.int 18))))) (dNil)))) (dCons (froze (dVar 4)) (dCons (retE (.dat (.int 0))) (dNil)))))
def F__law_box : DE := callF 5 3 g__law_box
theorem ok__law_box {P : Program} {w : World} {K : PySem.W.Frag} {mg : Str → Option Value} {base : Heap} {C : Cl} {f : Addr} {fd : FuncData} (F0 : Fun K "_law_box" "_law_box" s__law_box f fd) (mf : mg "_law_box" = some (.ref f)) (m_len : mg "len" = none) (m_abs : mg "abs" = none) (m_int : mg "int" = none) : DefOk P w K mg base C 1 "_law_box" P__law_box F__law_box := by
  have sc : FnScope N__law_box P__law_box (defScope s__law_box) := ⟨rfl, rfl, rfl, by decide +kernel, rfl, by decide +kernel, by decide +kernel⟩
  refine ⟨f, fd, def_ok (N := N__law_box) (ps := P__law_box) (g := g__law_box) F0 sc rfl fun cdv A outer s H E B gd hr hn => ?_, F0.binds fun _ _ _ _ _ _ us hl => match us, hl with | [_, _, _], _ => rfl, F0.kp, mf⟩
  have tk := takes_of (X := cxOf (L2.CX P w) P w K mg base N__law_box "_law_box" (defScope s__law_box) f cdv A outer s H E) rfl rfl rfl rfl
  have hp := passes_of (X := cxOf (L2.CX P w) P w K mg base N__law_box "_law_box" (defScope s__law_box) f cdv A outer s H E) rfl
  have hu := hr.units
  exact pds_cons (pds_set (i := 3) (np := 3) hn sc.nd rfl (.inl rfl) (pd_bin op_addA o_add (pd_bin op_addA o_add (pd_bin op_mulA o_mul (pd_int) (pd_var (pv 1))) (pd_bin op_mulA o_mul (pd_int) (pd_var (pv 2)))) (pd_int)))
    (pds_cons (pds_if (pdt_cmp op_lt o_lt (pd_var (pv 1)) (pd_callB call_len o_len (by rfl) m_len (by decide +kernel) (pda_cons (pd_var (pv 0)) (pda_nil))) (nomark _))
      (pds_one (pds_set (i := 3) (np := 3) hn sc.nd rfl (.inl rfl) (pd_callB call_abs o_abs (by rfl) m_abs (by decide +kernel) (pda_cons (pd_ixR ix_seq o_ix (pd_var (pv 0)) (pd_var (pv 1)) (fun _ _ => rfl)) (pda_nil)))))
      (pds_one (pds_if (pdt_cmp op_gt o_gt (pd_callB call_len o_len (by rfl) m_len (by decide +kernel) (pda_cons (pd_var (pv 0)) (pda_nil))) (pd_int) (nomark _))
      (pds_one (pds_set (i := 3) (np := 3) hn sc.nd rfl (.inl rfl) (pd_bin op_addA o_add (pd_var (pv 3)) (pd_bin op_mulA o_mul (pd_bin op_mod o_mod (pd_callTy call_int1 o_int (by rfl) m_int (by decide +kernel) (pda_cons (pd_callB call_abs o_abs (by rfl) m_abs (by decide +kernel) (pda_cons (pd_ixR ix_seq o_ix (pd_var (pv 0)) (pd_bin op_mod o_mod (pd_callTy call_int1 o_int (by rfl) m_int (by decide +kernel) (pda_cons (pd_var (pv 1)) (pda_nil))) (pd_callB call_len o_len (by rfl) m_len (by decide +kernel) (pda_cons (pd_var (pv 0)) (pda_nil)))) (fun _ _ => rfl)) (pda_nil))) (pda_nil))) (pd_int)) (pd_int)))))
      (pds_nil))))
    (pds_cons (pds_set (i := 4) (np := 3) hn sc.nd rfl (.inl rfl) (pd_bin op_addA o_add (pd_bin op_mod o_mod (pd_callTy call_int1 o_int (by rfl) m_int (by decide +kernel) (pda_cons (pd_bin op_addA o_add (pd_bin op_mulA o_mul (pd_bin op_mod o_mod (pd_callTy call_int1 o_int (by rfl) m_int (by decide +kernel) (pda_cons (pd_var (pv 3)) (pda_nil))) (pd_int)) (pd_int)) (pd_bin op_mulA o_mul (pd_int) (pd_bin op_addA o_add (pd_var (pv 1)) (pd_bin op_mulA o_mul (pd_int) (pd_var (pv 2)))))) (pda_nil))) (pd_int)) (pd_int)))
    (pds_one (pds_ret (pd_lst (pda_cons (pd_ixR ix_seq o_ix (pd_lst (pda_cons (pd_int) (pda_cons (pd_frz (pd_var (pv 3))) (pda_nil)))) (pd_callTy call_int1 o_int (by rfl) m_int (by decide +kernel) (pda_cons (pd_cmp op_ge o_ge (pd_var (pv 3)) (pd_bin op_pow o_pow (pd_int) (pd_int)) (nomark _)) (pda_nil))) (fun _ _ => rfl)) (pda_cons (pd_frz (pd_var (pv 4))) (pda_cons (pd_int) (pda_nil)))))))))
abbrev s__law_take : Stmt := topOf PySem.Challenge.pw_talkmeans_k35_spreads 11
abbrev N__law_take : List Str := ["_law_box_here", "_law_many", "_law_digit", "_law_raw", "_law_wide"]
abbrev P__law_take : List Str := ["_law_box_here", "_law_many"]
def g__law_take : DS :=
  seqS (sIf (asB (dBin gGt (dBin gIx (dVar 0) (retE (.dat (.int 0)))) (retE (.dat (.int 0))))) (seqS (sSet 2 2 (dBin gMod (dCall (on1 hInt) (dCons (dBin gIx (dVar 0) (retE (.dat (.int 0)))) (dNil))) (dVar 1))) <|
  seqS (sStore (dBin gFdiv (dBin gIx (dVar 0) (retE (.dat (.int 0)))) (dVar 1)) (dVar 0) (retE (.dat (.int 0)))) <|
  sRet (dVar 2)) (nxS)) <|
  seqS (sStore (dBin gAdd (dBin gIx (dVar 0) (retE (.dat (.int 2)))) (retE (.dat (.int 1)))) (dVar 0) (retE (.dat (.int 2)))) <|
  seqS (sSet 3 2 (dBin gMod (dCall (on1 hInt) (dCons (dBin gMul (dBin gAdd (dBin gIx (dVar 0) (retE (.dat (.int 1)))) (dBin gMul (retE (.dat (.int 104729))) (dBin gIx (dVar 0) (retE (.dat (.int 2)))))) (retE (.dat (.int 69827)))) (dNil))) (retE (.dat (.int 2147483647))))) <|
  seqS (sStore (dBin gAdd (dBin gMod (dCall (on1 hInt) (dCons (dBin gAdd (dBin gMul (dVar 3) (retE (.dat (.int 48271)))) (retE (.dat (.int 30103)))) (dNil))) (retE (.dat (.int 2147483629)))) (retE (.dat (.int 1)))) (dVar 0) (retE (.dat (.int 1)))) <|
  seqS (sIf (asB (dBin gLt (dVar 1) (dBin gPow (retE (.dat (.int 2))) (retE (.dat (.int 40)))))) (sRet (dBin gMod (dCall (on1 hInt) (dCons (dBin gFdiv (dBin gAdd (dBin gMul (dVar 3) (retE (.dat (.int 2147483647)))) (dBin gIx (dVar 0) (retE (.dat (.int 1))))) (retE (.dat (.int 8191)))) (dNil))) (dVar 1))) (nxS)) <|
  seqS (sSet 4 2 (dBin gMul (dBin gAdd (dBin gMul (dVar 3) (retE (.dat (.int 2147483647)))) (dBin gIx (dVar 0) (retE (.dat (.int 1))))) (dBin gPow (retE (.dat (.int 2147483629))) (retE (.dat (.int 3)))))) <|
  sRet (dBin gMod (dCall (on1 hInt) (dCons (dBin gAdd (dBin gAdd (dVar 4) (dBin gMul (dBin gPow (dBin gIx (dVar 0) (retE (.dat (.int 1)))) (retE (.dat (.int 3)))) (retE (.dat (.int 8191))))) (dVar 3)) (dNil))) (dVar 1))
def F__law_take : DE := callF 5 2 g__law_take
theorem ok__law_take {P : Program} {w : World} {K : PySem.W.Frag} {mg : Str → Option Value} {base : Heap} {C : Cl} {f : Addr} {fd : FuncData} (F0 : Fun K "_law_take" "_law_take" s__law_take f fd) (mf : mg "_law_take" = some (.ref f)) (m_int : mg "int" = none) : DefOk P w K mg base C 1 "_law_take" P__law_take F__law_take := by
  have sc : FnScope N__law_take P__law_take (defScope s__law_take) := ⟨rfl, rfl, rfl, by decide +kernel, rfl, by decide +kernel, by decide +kernel⟩
  refine ⟨f, fd, def_ok (N := N__law_take) (ps := P__law_take) (g := g__law_take) F0 sc rfl fun cdv A outer s H E B gd hr hn => ?_, F0.binds fun _ _ _ _ _ _ us hl => match us, hl with | [_, _], _ => rfl, F0.kp, mf⟩
  have tk := takes_of (X := cxOf (L2.CX P w) P w K mg base N__law_take "_law_take" (defScope s__law_take) f cdv A outer s H E) rfl rfl rfl rfl
  have hp := passes_of (X := cxOf (L2.CX P w) P w K mg base N__law_take "_law_take" (defScope s__law_take) f cdv A outer s H E) rfl
  have hu := hr.units
  exact pds_cons (pds_if (pdt_cmp op_gt o_gt (pd_ixR ix_seq o_ix (pd_var (pv 0)) (pd_int) (fun _ _ => rfl)) (pd_int) (nomark _))
      (pds_cons (pds_set (i := 2) (np := 2) hn sc.nd rfl (.inl rfl) (pd_bin op_mod o_mod (pd_callTy call_int1 o_int (by rfl) m_int (by decide +kernel) (pda_cons (pd_ixR ix_seq o_ix (pd_var (pv 0)) (pd_int) (fun _ _ => rfl)) (pda_nil))) (pd_var (pv 1))))
    (pds_cons (pds_store (pd_bin op_fdivW o_fdiv (pd_ixR ix_seq o_ix (pd_var (pv 0)) (pd_int) (fun _ _ => rfl)) (pd_var (pv 1))) (pd_var (pv 0)) (pd_int))
    (pds_one (pds_ret (pd_var (pv 2))))))
      (pds_nil))
    (pds_cons (pds_store (pd_bin op_addA o_add (pd_ixR ix_seq o_ix (pd_var (pv 0)) (pd_int) (fun _ _ => rfl)) (pd_int)) (pd_var (pv 0)) (pd_int))
    (pds_cons (pds_set (i := 3) (np := 2) hn sc.nd rfl (.inl rfl) (pd_bin op_mod o_mod (pd_callTy call_int1 o_int (by rfl) m_int (by decide +kernel) (pda_cons (pd_bin op_mulA o_mul (pd_bin op_addA o_add (pd_ixR ix_seq o_ix (pd_var (pv 0)) (pd_int) (fun _ _ => rfl)) (pd_bin op_mulA o_mul (pd_int) (pd_ixR ix_seq o_ix (pd_var (pv 0)) (pd_int) (fun _ _ => rfl)))) (pd_int)) (pda_nil))) (pd_int)))
    (pds_cons (pds_store (pd_bin op_addA o_add (pd_bin op_mod o_mod (pd_callTy call_int1 o_int (by rfl) m_int (by decide +kernel) (pda_cons (pd_bin op_addA o_add (pd_bin op_mulA o_mul (pd_var (pv 3)) (pd_int)) (pd_int)) (pda_nil))) (pd_int)) (pd_int)) (pd_var (pv 0)) (pd_int))
    (pds_cons (pds_if (pdt_cmp op_lt o_lt (pd_var (pv 1)) (pd_bin op_pow o_pow (pd_int) (pd_int)) (nomark _))
      (pds_one (pds_ret (pd_bin op_mod o_mod (pd_callTy call_int1 o_int (by rfl) m_int (by decide +kernel) (pda_cons (pd_bin op_fdivW o_fdiv (pd_bin op_addA o_add (pd_bin op_mulA o_mul (pd_var (pv 3)) (pd_int)) (pd_ixR ix_seq o_ix (pd_var (pv 0)) (pd_int) (fun _ _ => rfl))) (pd_int)) (pda_nil))) (pd_var (pv 1)))))
      (pds_nil))
    (pds_cons (pds_set (i := 4) (np := 2) hn sc.nd rfl (.inl rfl) (pd_bin op_mulA o_mul (pd_bin op_addA o_add (pd_bin op_mulA o_mul (pd_var (pv 3)) (pd_int)) (pd_ixR ix_seq o_ix (pd_var (pv 0)) (pd_int) (fun _ _ => rfl))) (pd_bin op_pow o_pow (pd_int) (pd_int))))
    (pds_one (pds_ret (pd_bin op_mod o_mod (pd_callTy call_int1 o_int (by rfl) m_int (by decide +kernel) (pda_cons (pd_bin op_addA o_add (pd_bin op_addA o_add (pd_var (pv 4)) (pd_bin op_mulA o_mul (pd_bin op_pow o_pow (pd_ixR ix_seq o_ix (pd_var (pv 0)) (pd_int) (fun _ _ => rfl)) (pd_int)) (pd_int))) (pd_var (pv 3))) (pda_nil))) (pd_var (pv 1))))))))))
abbrev s__law_pick : Stmt := topOf PySem.Challenge.pw_talkmeans_k35_spreads 12
abbrev N__law_pick : List Str := ["_law_box_here", "_law_items"]
abbrev P__law_pick : List Str := ["_law_box_here", "_law_items"]
def g__law_pick : DS :=
  sRet (dBin gIx (dVar 1) (dFn F__law_take (dCons (dVar 0) (dCons (dCall (on1 hLen) (dCons (dVar 1) (dNil))) (dNil)))))
def F__law_pick : DE := callF 2 2 g__law_pick
theorem ok__law_pick {P : Program} {w : World} {K : PySem.W.Frag} {mg : Str → Option Value} {base : Heap} {C : Cl} {f : Addr} {fd : FuncData} (F0 : Fun K "_law_pick" "_law_pick" s__law_pick f fd) (mf : mg "_law_pick" = some (.ref f)) (h__law_take : DefOk P w K mg base C 1 "_law_take" P__law_take F__law_take) (m_len : mg "len" = none) : DefOk P w K mg base C 2 "_law_pick" P__law_pick F__law_pick := by
  have sc : FnScope N__law_pick P__law_pick (defScope s__law_pick) := ⟨rfl, rfl, rfl, by decide +kernel, rfl, by decide +kernel, by decide +kernel⟩
  refine ⟨f, fd, def_ok (N := N__law_pick) (ps := P__law_pick) (g := g__law_pick) F0 sc rfl fun cdv A outer s H E B gd hr hn => ?_, F0.binds fun _ _ _ _ _ _ us hl => match us, hl with | [_, _], _ => rfl, F0.kp, mf⟩
  have tk := takes_of (X := cxOf (L2.CX P w) P w K mg base N__law_pick "_law_pick" (defScope s__law_pick) f cdv A outer s H E) rfl rfl rfl rfl
  have hp := passes_of (X := cxOf (L2.CX P w) P w K mg base N__law_pick "_law_pick" (defScope s__law_pick) f cdv A outer s H E) rfl
  have hu := hr.units
  exact pds_one (pds_ret (pd_ixR ix_seq o_ix (pd_var (pv 1)) (pd_fn h__law_take gd (hr.mono (by decide)) tk rfl (pda_cons (pd_var (pv 0)) (pda_cons (pd_callB call_len o_len (by rfl) m_len (by decide +kernel) (pda_cons (pd_var (pv 1)) (pda_nil))) (pda_nil)))) (fun _ _ => rfl)))
abbrev s__law_mixed : Stmt := topOf PySem.Challenge.pw_talkmeans_k35_spreads 13
abbrev N__law_mixed : List Str := ["_law_box_here", "_law_items", "_law_left", "_law_found", "_law_turn"]
abbrev P__law_mixed : List Str := ["_law_box_here", "_law_items"]
def b__law_mixed_1 : DS :=
  sExpr (dMeth "list" gAppend (dVar 3) (dCons (dMeth "list" gPopAt (dVar 2) (dCons (dFn F__law_take (dCons (dVar 0) (dCons (dCall (on1 hLen) (dCons (dVar 2) (dNil))) (dNil)))) (dNil))) (dNil)))
def g__law_mixed : DS :=
  seqS (sPar2 2 3 2 (dCons (dCall (gListOf) (dCons (dVar 1) (dNil))) (dCons (dLst (dNil)) dNil))) <|
  seqS (sFor (dRange1 (dCall (on1 hLen) (dCons (dVar 2) (dNil)))) (tgN 4) (b__law_mixed_1)) <|
  sRet (dVar 3)
def F__law_mixed : DE := callF 5 2 g__law_mixed
theorem ok__law_mixed {P : Program} {w : World} {K : PySem.W.Frag} {mg : Str → Option Value} {base : Heap} {C : Cl} {f : Addr} {fd : FuncData} (F0 : Fun K "_law_mixed" "_law_mixed" s__law_mixed f fd) (mf : mg "_law_mixed" = some (.ref f)) (h__law_take : DefOk P w K mg base C 1 "_law_take" P__law_take F__law_take) (m_list : mg "list" = none) (m_range : mg "range" = none) (m_len : mg "len" = none) : DefOk P w K mg base C 2 "_law_mixed" P__law_mixed F__law_mixed := by
  have sc : FnScope N__law_mixed P__law_mixed (defScope s__law_mixed) := ⟨rfl, rfl, rfl, by decide +kernel, rfl, by decide +kernel, by decide +kernel⟩
  refine ⟨f, fd, def_ok (N := N__law_mixed) (ps := P__law_mixed) (g := g__law_mixed) F0 sc rfl fun cdv A outer s H E B gd hr hn => ?_, F0.binds fun _ _ _ _ _ _ us hl => match us, hl with | [_, _], _ => rfl, F0.kp, mf⟩
  have tk := takes_of (X := cxOf (L2.CX P w) P w K mg base N__law_mixed "_law_mixed" (defScope s__law_mixed) f cdv A outer s H E) rfl rfl rfl rfl
  have hp := passes_of (X := cxOf (L2.CX P w) P w K mg base N__law_mixed "_law_mixed" (defScope s__law_mixed) f cdv A outer s H E) rfl
  have hu := hr.units
  exact pds_cons (pds_par (i := 2) (j := 3) (np := 2) hn rfl sc.nd rfl rfl (by decide) rfl rfl (pda_cons (pd_callTy call_list_of o_listOf (by rfl) m_list (by decide +kernel) (pda_cons (pd_var (pv 1)) (pda_nil))) (pda_cons (pd_lst (pda_nil)) pda_nil)) (by rfl) (by rfl))
    (pds_cons (pds_for (js := [4]) hp rfl (pdi_range1 (by rfl) m_range (pd_callB call_len o_len (by rfl) m_len (by decide +kernel) (pda_cons (pd_var (pv 2)) (pda_nil)))) (pdg_name (pg_name (i := 4) sc.nd rfl (.inl rfl)))
      (pds_one (pds_expr (pd_bm PySem.F.plainAttrs_list PySem.F.slot_list_append PySem.F.type_list_append mt_append o_append (pd_var (pv 3)) (pda_cons (pd_bm PySem.F.plainAttrs_list PySem.F.slot_list_pop PySem.F.type_list_pop mt_popAt o_popAt (pd_var (pv 2)) (pda_cons (pd_fn h__law_take gd (hr.mono (by decide)) tk rfl (pda_cons (pd_var (pv 0)) (pda_cons (pd_callB call_len o_len (by rfl) m_len (by decide +kernel) (pda_cons (pd_var (pv 2)) (pda_nil))) (pda_nil)))) (pda_nil))) (pda_nil))))))
    (pds_one (pds_ret (pd_var (pv 3)))))
abbrev s__law_ratio : Stmt := topOf PySem.Challenge.pw_talkmeans_k35_spreads 14
abbrev N__law_ratio : List Str := ["_law_upper", "_law_lower", "_law_one", "_law_other"]
abbrev P__law_ratio : List Str := ["_law_upper", "_law_lower"]
def b__law_ratio_1 : DS :=
  sPar2 2 3 2 (dCons (froze (dVar 3)) (dCons (dBin gMod (dCall (on1 hInt) (dCons (dVar 2) (dNil))) (dVar 3)) dNil))
def g__law_ratio : DS :=
  seqS (sPar2 2 3 2 (dCons (dCall (on1 hAbs) (dCons (dVar 0) (dNil))) (dCons (froze (dVar 1)) dNil))) <|
  seqS (sWhile (natAt 3) (asB (dBin gNe (dVar 3) (retE (.dat (.int 0))))) (b__law_ratio_1)) <|
  sRet (dTup (dCons (dBin gFdiv (dVar 0) (dVar 2)) (dCons (dBin gFdiv (dVar 1) (dVar 2)) (dNil))))
def F__law_ratio : DE := callF 4 2 g__law_ratio
theorem ok__law_ratio {P : Program} {w : World} {K : PySem.W.Frag} {mg : Str → Option Value} {base : Heap} {C : Cl} {f : Addr} {fd : FuncData} (F0 : Fun K "_law_ratio" "_law_ratio" s__law_ratio f fd) (mf : mg "_law_ratio" = some (.ref f)) (m_abs : mg "abs" = none) (m_int : mg "int" = none) : DefOk P w K mg base C 1 "_law_ratio" P__law_ratio F__law_ratio := by
  have sc : FnScope N__law_ratio P__law_ratio (defScope s__law_ratio) := ⟨rfl, rfl, rfl, by decide +kernel, rfl, by decide +kernel, by decide +kernel⟩
  refine ⟨f, fd, def_ok (N := N__law_ratio) (ps := P__law_ratio) (g := g__law_ratio) F0 sc rfl fun cdv A outer s H E B gd hr hn => ?_, F0.binds fun _ _ _ _ _ _ us hl => match us, hl with | [_, _], _ => rfl, F0.kp, mf⟩
  have tk := takes_of (X := cxOf (L2.CX P w) P w K mg base N__law_ratio "_law_ratio" (defScope s__law_ratio) f cdv A outer s H E) rfl rfl rfl rfl
  have hp := passes_of (X := cxOf (L2.CX P w) P w K mg base N__law_ratio "_law_ratio" (defScope s__law_ratio) f cdv A outer s H E) rfl
  have hu := hr.units
  exact pds_cons (pds_par (i := 2) (j := 3) (np := 2) hn rfl sc.nd rfl rfl (by decide) rfl rfl (pda_cons (pd_callB call_abs o_abs (by rfl) m_abs (by decide +kernel) (pda_cons (pd_var (pv 0)) (pda_nil))) (pda_cons (pd_frz (pd_var (pv 1))) pda_nil)) (by rfl) (by rfl))
    (pds_cons (pds_while (natAt 3) hp (pdt_cmp (op_neA hu) o_ne (pd_var (pv 3)) (pd_int) (nomark _))
      (pds_one (pds_par (i := 2) (j := 3) (np := 2) hn rfl sc.nd rfl rfl (by decide) rfl rfl (pda_cons (pd_frz (pd_var (pv 3))) (pda_cons (pd_bin op_mod o_mod (pd_callTy call_int1 o_int (by rfl) m_int (by decide +kernel) (pda_cons (pd_var (pv 2)) (pda_nil))) (pd_var (pv 3))) pda_nil)) (by rfl) (by rfl))))
    (pds_one (pds_ret (pd_tup (pda_cons (pd_bin op_fdivW o_fdiv (pd_var (pv 0)) (pd_var (pv 2))) (pda_cons (pd_bin op_fdivW o_fdiv (pd_var (pv 1)) (pd_var (pv 2))) (pda_nil)))))))
abbrev s__law_plus : Stmt := topOf PySem.Challenge.pw_talkmeans_k35_spreads 15
abbrev N__law_plus : List Str := ["_law_one", "_law_other"]
abbrev P__law_plus : List Str := ["_law_one", "_law_other"]
def g__law_plus : DS :=
  sRet (dFn F__law_ratio (dCons (froze (dBin gAdd (dBin gMul (dBin gIx (dVar 0) (retE (.dat (.int 0)))) (dBin gIx (dVar 1) (retE (.dat (.int 1))))) (dBin gMul (dBin gIx (dVar 1) (retE (.dat (.int 0)))) (dBin gIx (dVar 0) (retE (.dat (.int 1))))))) (dCons (froze (dBin gMul (dBin gIx (dVar 0) (retE (.dat (.int 1)))) (dBin gIx (dVar 1) (retE (.dat (.int 1)))))) (dNil))))
def F__law_plus : DE := callF 2 2 g__law_plus
theorem ok__law_plus {P : Program} {w : World} {K : PySem.W.Frag} {mg : Str → Option Value} {base : Heap} {C : Cl} {f : Addr} {fd : FuncData} (F0 : Fun K "_law_plus" "_law_plus" s__law_plus f fd) (mf : mg "_law_plus" = some (.ref f)) (h__law_ratio : DefOk P w K mg base C 1 "_law_ratio" P__law_ratio F__law_ratio) : DefOk P w K mg base C 2 "_law_plus" P__law_plus F__law_plus := by
  have sc : FnScope N__law_plus P__law_plus (defScope s__law_plus) := ⟨rfl, rfl, rfl, by decide +kernel, rfl, by decide +kernel, by decide +kernel⟩
  refine ⟨f, fd, def_ok (N := N__law_plus) (ps := P__law_plus) (g := g__law_plus) F0 sc rfl fun cdv A outer s H E B gd hr hn => ?_, F0.binds fun _ _ _ _ _ _ us hl => match us, hl with | [_, _], _ => rfl, F0.kp, mf⟩
  have tk := takes_of (X := cxOf (L2.CX P w) P w K mg base N__law_plus "_law_plus" (defScope s__law_plus) f cdv A outer s H E) rfl rfl rfl rfl
  have hp := passes_of (X := cxOf (L2.CX P w) P w K mg base N__law_plus "_law_plus" (defScope s__law_plus) f cdv A outer s H E) rfl
  have hu := hr.units
  exact pds_one (pds_ret (pd_fn h__law_ratio gd (hr.mono (by decide)) tk rfl (pda_cons (pd_frz (pd_bin op_addA o_add (pd_bin op_mulA o_mul (pd_ixR ix_seq o_ix (pd_var (pv 0)) (pd_int) (fun _ _ => rfl)) (pd_ixR ix_seq o_ix (pd_var (pv 1)) (pd_int) (fun _ _ => rfl))) (pd_bin op_mulA o_mul (pd_ixR ix_seq o_ix (pd_var (pv 1)) (pd_int) (fun _ _ => rfl)) (pd_ixR ix_seq o_ix (pd_var (pv 0)) (pd_int) (fun _ _ => rfl))))) (pda_cons (pd_frz (pd_bin op_mulA o_mul (pd_ixR ix_seq o_ix (pd_var (pv 0)) (pd_int) (fun _ _ => rfl)) (pd_ixR ix_seq o_ix (pd_var (pv 1)) (pd_int) (fun _ _ => rfl)))) (pda_nil)))))
abbrev s__law_value : Stmt := topOf PySem.Challenge.pw_talkmeans_k35_spreads 16
abbrev N__law_value : List Str := ["_law_box_here", "_law_upper"]
abbrev P__law_value : List Str := ["_law_box_here"]
def g__law_value : DS :=
  seqS (sSet 1 1 (dFn F__law_pick (dCons (dVar 0) (dCons (froze (dLst (dCons (retE (.dat (.int 0))) (dCons (retE (.dat (.int 1))) (dCons (dBin gPow (retE (.dat (.int 10))) (retE (.dat (.int 6)))) (dCons (dBin gSub (retE (.dat (.int 0))) (retE (.dat (.int 7)))) (dCons (dBin gSub (dFn F__law_take (dCons (dVar 0) (dCons (retE (.dat (.int 40))) (dNil)))) (retE (.dat (.int 20)))) (dNil)))))))) (dNil))))) <|
  sRet (dIfE (asB (dBin gEq (dFn F__law_take (dCons (dVar 0) (dCons (retE (.dat (.int 2))) (dNil)))) (retE (.dat (.int 0))))) (dVar 1) (dTup (dCons (froze (dVar 1)) (dCons (froze (dBin gAdd (retE (.dat (.int 1))) (dFn F__law_take (dCons (dVar 0) (dCons (retE (.dat (.int 12))) (dNil)))))) (dNil)))))
def F__law_value : DE := callF 2 1 g__law_value
theorem ok__law_value {P : Program} {w : World} {K : PySem.W.Frag} {mg : Str → Option Value} {base : Heap} {C : Cl} {f : Addr} {fd : FuncData} (F0 : Fun K "_law_value" "_law_value" s__law_value f fd) (mf : mg "_law_value" = some (.ref f)) (h__law_pick : DefOk P w K mg base C 2 "_law_pick" P__law_pick F__law_pick) (h__law_take : DefOk P w K mg base C 1 "_law_take" P__law_take F__law_take) : DefOk P w K mg base C 3 "_law_value" P__law_value F__law_value := by
  have sc : FnScope N__law_value P__law_value (defScope s__law_value) := ⟨rfl, rfl, rfl, by decide +kernel, rfl, by decide +kernel, by decide +kernel⟩
  refine ⟨f, fd, def_ok (N := N__law_value) (ps := P__law_value) (g := g__law_value) F0 sc rfl fun cdv A outer s H E B gd hr hn => ?_, F0.binds fun _ _ _ _ _ _ us hl => match us, hl with | [_], _ => rfl, F0.kp, mf⟩
  have tk := takes_of (X := cxOf (L2.CX P w) P w K mg base N__law_value "_law_value" (defScope s__law_value) f cdv A outer s H E) rfl rfl rfl rfl
  have hp := passes_of (X := cxOf (L2.CX P w) P w K mg base N__law_value "_law_value" (defScope s__law_value) f cdv A outer s H E) rfl
  have hu := hr.units
  exact pds_cons (pds_set (i := 1) (np := 1) hn sc.nd rfl (.inl rfl) (pd_fn h__law_pick gd (hr.mono (by decide)) tk rfl (pda_cons (pd_var (pv 0)) (pda_cons (pd_frz (pd_lst (pda_cons (pd_int) (pda_cons (pd_int) (pda_cons (pd_bin op_pow o_pow (pd_int) (pd_int)) (pda_cons (pd_bin op_sub o_sub (pd_int) (pd_int)) (pda_cons (pd_bin op_sub o_sub (pd_fn h__law_take gd (hr.mono (by decide)) tk rfl (pda_cons (pd_var (pv 0)) (pda_cons (pd_int) (pda_nil)))) (pd_int)) (pda_nil)))))))) (pda_nil)))))
    (pds_one (pds_ret (pd_if (pdt_cmp (op_eqA hu) o_eq (pd_fn h__law_take gd (hr.mono (by decide)) tk rfl (pda_cons (pd_var (pv 0)) (pda_cons (pd_int) (pda_nil)))) (pd_int) (nomark _)) (pd_var (pv 1)) (pd_tup (pda_cons (pd_frz (pd_var (pv 1))) (pda_cons (pd_frz (pd_bin op_addA o_add (pd_int) (pd_fn h__law_take gd (hr.mono (by decide)) tk rfl (pda_cons (pd_var (pv 0)) (pda_cons (pd_int) (pda_nil)))))) (pda_nil)))))))
abbrev s__law_pair : Stmt := topOf PySem.Challenge.pw_talkmeans_k35_spreads 17
abbrev N__law_pair : List Str := ["_law_value_here"]
abbrev P__law_pair : List Str := ["_law_value_here"]
def g__law_pair : DS :=
  sRet (dIfE (asB (dCall (on2 hIsi) (dCons (dVar 0) (dCons (retE (.dat (.ty "int"))) (dNil))))) (dFn F__law_ratio (dCons (froze (dVar 0)) (dCons (retE (.dat (.int 1))) (dNil)))) (dFn F__law_ratio (dCons (dBin gIx (dVar 0) (retE (.dat (.int 0)))) (dCons (dBin gIx (dVar 0) (retE (.dat (.int 1)))) (dNil)))))
def F__law_pair : DE := callF 1 1 g__law_pair
theorem ok__law_pair {P : Program} {w : World} {K : PySem.W.Frag} {mg : Str → Option Value} {base : Heap} {C : Cl} {f : Addr} {fd : FuncData} (F0 : Fun K "_law_pair" "_law_pair" s__law_pair f fd) (mf : mg "_law_pair" = some (.ref f)) (h__law_ratio : DefOk P w K mg base C 1 "_law_ratio" P__law_ratio F__law_ratio) (m_isinstance : mg "isinstance" = none) (m_int : mg "int" = none) : DefOk P w K mg base C 2 "_law_pair" P__law_pair F__law_pair := by
  have sc : FnScope N__law_pair P__law_pair (defScope s__law_pair) := ⟨rfl, rfl, rfl, by decide +kernel, rfl, by decide +kernel, by decide +kernel⟩
  refine ⟨f, fd, def_ok (N := N__law_pair) (ps := P__law_pair) (g := g__law_pair) F0 sc rfl fun cdv A outer s H E B gd hr hn => ?_, F0.binds fun _ _ _ _ _ _ us hl => match us, hl with | [_], _ => rfl, F0.kp, mf⟩
  have tk := takes_of (X := cxOf (L2.CX P w) P w K mg base N__law_pair "_law_pair" (defScope s__law_pair) f cdv A outer s H E) rfl rfl rfl rfl
  have hp := passes_of (X := cxOf (L2.CX P w) P w K mg base N__law_pair "_law_pair" (defScope s__law_pair) f cdv A outer s H E) rfl
  have hu := hr.units
  exact pds_one (pds_ret (pd_if (pdt_val (pd_callB call_isi o_isi (by rfl) m_isinstance (by decide +kernel) (pda_cons (pd_var (pv 0)) (pda_cons (pd_ty rfl m_int (by decide +kernel)) (pda_nil))))) (pd_fn h__law_ratio gd (hr.mono (by decide)) tk rfl (pda_cons (pd_frz (pd_var (pv 0))) (pda_cons (pd_int) (pda_nil)))) (pd_fn h__law_ratio gd (hr.mono (by decide)) tk rfl (pda_cons (pd_ixR ix_seq o_ix (pd_var (pv 0)) (pd_int) (fun _ _ => rfl)) (pda_cons (pd_ixR ix_seq o_ix (pd_var (pv 0)) (pd_int) (fun _ _ => rfl)) (pda_nil))))))
abbrev s__law_less : Stmt := topOf PySem.Challenge.pw_talkmeans_k35_spreads 18
abbrev N__law_less : List Str := ["_law_one", "_law_other"]
abbrev P__law_less : List Str := ["_law_one", "_law_other"]
def g__law_less : DS :=
  sRet (dBin gLt (dBin gMul (dBin gIx (dVar 0) (retE (.dat (.int 0)))) (dBin gIx (dVar 1) (retE (.dat (.int 1))))) (dBin gMul (dBin gIx (dVar 1) (retE (.dat (.int 0)))) (dBin gIx (dVar 0) (retE (.dat (.int 1))))))
def F__law_less : DE := callF 2 2 g__law_less
theorem ok__law_less {P : Program} {w : World} {K : PySem.W.Frag} {mg : Str → Option Value} {base : Heap} {C : Cl} {f : Addr} {fd : FuncData} (F0 : Fun K "_law_less" "_law_less" s__law_less f fd) (mf : mg "_law_less" = some (.ref f)) : DefOk P w K mg base C 1 "_law_less" P__law_less F__law_less := by
  have sc : FnScope N__law_less P__law_less (defScope s__law_less) := ⟨rfl, rfl, rfl, by decide +kernel, rfl, by decide +kernel, by decide +kernel⟩
  refine ⟨f, fd, def_ok (N := N__law_less) (ps := P__law_less) (g := g__law_less) F0 sc rfl fun cdv A outer s H E B gd hr hn => ?_, F0.binds fun _ _ _ _ _ _ us hl => match us, hl with | [_, _], _ => rfl, F0.kp, mf⟩
  have tk := takes_of (X := cxOf (L2.CX P w) P w K mg base N__law_less "_law_less" (defScope s__law_less) f cdv A outer s H E) rfl rfl rfl rfl
  have hp := passes_of (X := cxOf (L2.CX P w) P w K mg base N__law_less "_law_less" (defScope s__law_less) f cdv A outer s H E) rfl
  have hu := hr.units
  exact pds_one (pds_ret (pd_cmp op_lt o_lt (pd_bin op_mulA o_mul (pd_ixR ix_seq o_ix (pd_var (pv 0)) (pd_int) (fun _ _ => rfl)) (pd_ixR ix_seq o_ix (pd_var (pv 1)) (pd_int) (fun _ _ => rfl))) (pd_bin op_mulA o_mul (pd_ixR ix_seq o_ix (pd_var (pv 1)) (pd_int) (fun _ _ => rfl)) (pd_ixR ix_seq o_ix (pd_var (pv 0)) (pd_int) (fun _ _ => rfl))) (nomark _)))
abbrev s_law : Stmt := topOf PySem.Challenge.pw_talkmeans_k35_spreads 19
abbrev N_law : List Str := ["_law_script", "_law_k", "_law_box_here", "_law_turn", "_law_numbers", "_law_pairs", "_law_due", "_law_one", "_law_other", "_law_apart_by", "_law_given", "_law_more", "_law_at", "_law_number", "_law_pair_here"]
def b_law_1 : DS :=
  seqS (sSet 9 1 (dFn F__law_plus (dCons (froze (dVar 7)) (dCons (dTup (dCons (dBin gSub (retE (.dat (.int 0))) (dBin gIx (dVar 8) (retE (.dat (.int 0))))) (dCons (dBin gIx (dVar 8) (retE (.dat (.int 1)))) (dNil)))) (dNil))))) <|
  sSet 6 1 (dIfE (asB (dFn F__law_less (dCons (froze (dVar 6)) (dCons (froze (dVar 9)) (dNil))))) (dVar 9) (dVar 6))
def b_law_2 : DS :=
  seqS (sSet 4 1 (dLc [12] (dRange1 (dBin gAdd (retE (.dat (.int 1))) (dFn F__law_take (dCons (dVar 2) (dCons (retE (.dat (.int 12))) (dNil)))))) (tgN 12) (yesT) (dFn F__law_value (dCons (dVar 2) (dNil))))) <|
  seqS (sPar2 5 6 1 (dCons (dLc [13] (dItems (dVar 4)) (tgN 13) (yesT) (dFn F__law_pair (dCons (froze (dVar 13)) (dNil)))) (dCons (dTup (dCons (retE (.dat (.int 0))) (dCons (retE (.dat (.int 1))) (dNil)))) dNil))) <|
  seqS (sFor (dItems (dVar 5)) (tgN 7) (sFor (dItems (dVar 5)) (tgN 8) (b_law_1))) <|
  seqS (sSet 10 1 (dCall (gListOf) (dCons (dVar 4) (dNil)))) <|
  seqS (sIf (dOrT (asB (dBin gNe (dCall (on1 hRepr) (dCons (dFn F_spread (dCons (froze (dVar 10)) (dNil))) (dNil))) (dCall (on1 hRepr) (dCons (dVar 6) (dNil))))) (dOrT (asB (dBin gNe (dFn F_spread (dCons (dCall (gTupOf) (dCons (dFn F__law_mixed (dCons (dVar 2) (dCons (froze (dVar 4)) (dNil)))) (dNil))) (dNil))) (dVar 6))) (asB (dBin gNe (dVar 10) (dVar 4))))) (sRet (retE (.dat (.bl false)))) (nxS)) <|
  seqS (sSet 11 1 (dBin gSub (dFn F__law_take (dCons (dVar 2) (dCons (retE (.dat (.int 99))) (dNil)))) (retE (.dat (.int 49))))) <|
  sIf (dOrT (asB (dBin gNe (dFn F_spread (dCons (froze (dLc [14] (dItems (dVar 5)) (tgN 14) (yesT) (dFn F__law_plus (dCons (froze (dVar 14)) (dCons (dTup (dCons (froze (dVar 11)) (dCons (retE (.dat (.int 1))) (dNil)))) (dNil)))))) (dNil))) (dVar 6))) (asB (dBin gNe (dFn F_spread (dCons (froze (dBin gMul (dLst (dCons (dBin gIx (dVar 5) (retE (.dat (.int 0)))) (dNil))) (retE (.dat (.int 3))))) (dNil))) (dTup (dCons (retE (.dat (.int 0))) (dCons (retE (.dat (.int 1))) (dNil))))))) (sRet (retE (.dat (.bl false)))) (nxS)
def b_law_3 : DS :=
  seqS (sSet 2 1 (dFn F__law_box (dCons (froze (dVar 0)) (dCons (froze (dVar 1)) (dCons (retE (.dat (.int 35))) (dNil)))))) <|
  sFor (dRange1 (retE (.dat (.int 8)))) (tgN 3) (b_law_2)
def g_law : DS :=
  seqS (sFor (dRange1 (dCall (on2 hMax2) (dCons (retE (.dat (.int 1))) (dCons (dCall (on2 hMin2) (dCons (retE (.dat (.int 4))) (dCons (dCall (on1 hLen) (dCons (dVar 0) (dNil))) (dNil)))) (dNil))))) (tgN 1) (b_law_3)) <|
  sRet (dAndV (dBin gEq (dFn F_spread (dCons (froze (dLst (dCons (retE (.dat (.int 7))) (dNil)))) (dNil))) (dTup (dCons (retE (.dat (.int 0))) (dCons (retE (.dat (.int 1))) (dNil))))) (dAndV (dBin gEq (dFn F_spread (dCons (froze (dLst (dCons (retE (.dat (.int 3))) (dCons (dTup (dCons (retE (.dat (.int 1))) (dCons (retE (.dat (.int 2))) (dNil)))) (dNil))))) (dNil))) (dTup (dCons (retE (.dat (.int 5))) (dCons (retE (.dat (.int 2))) (dNil))))) (dBin gEq (dFn F_spread (dCons (froze (dLst (dCons (dTup (dCons (retE (.dat (.int 2))) (dCons (retE (.dat (.int 4))) (dNil)))) (dCons (dTup (dCons (dUn hNeg (retE (.dat (.int 3)))) (dCons (retE (.dat (.int 6))) (dNil)))) (dNil))))) (dNil))) (dTup (dCons (retE (.dat (.int 1))) (dCons (retE (.dat (.int 1))) (dNil)))))))
theorem ok_law {P : Program} {w : World} {K : PySem.W.Frag} {mg : Str → Option Value} {base : Heap} {C : Cl} {f : Addr} {fd : FuncData} (F0 : Fun K "law" "law" s_law f fd) (h__law_box : DefOk P w K mg base C 1 "_law_box" P__law_box F__law_box) (h__law_take : DefOk P w K mg base C 1 "_law_take" P__law_take F__law_take) (h__law_value : DefOk P w K mg base C 3 "_law_value" P__law_value F__law_value) (h__law_pair : DefOk P w K mg base C 2 "_law_pair" P__law_pair F__law_pair) (h__law_plus : DefOk P w K mg base C 2 "_law_plus" P__law_plus F__law_plus) (h__law_less : DefOk P w K mg base C 1 "_law_less" P__law_less F__law_less) (h_spread : DefOk P w K mg base C 3 "spread" P_spread F_spread) (h__law_mixed : DefOk P w K mg base C 2 "_law_mixed" P__law_mixed F__law_mixed) (m_range : mg "range" = none) (m_max : mg "max" = none) (m_min : mg "min" = none) (m_len : mg "len" = none) (m_list : mg "list" = none) (m_repr : mg "repr" = none) (m_tuple : mg "tuple" = none)
    (true_ : ∀ ns : List Int, ns.length ≤ 63 → ∃ ρ, g_law (some (.dat (.wri (ns.map D.int))) :: List.replicate (N_law.length - 1) none) = some (.rt (.dat (.bl true)) ρ)) : FnG P w K mg base CX0 4 f fd ["_law_script"] (spLaw K) := by
  have sc : FnScope N_law ["_law_script"] (defScope s_law) := ⟨rfl, rfl, rfl, by decide +kernel, rfl, by decide +kernel, by decide +kernel⟩
  refine law_def (N := N_law) (g := g_law) (C := C) F0 sc (fun cdv A outer s H E B gd hr hn => ?_) true_
  have hp := PassesOwn.never (M := model P w) (A := (cxOf CX0 P w K mg base N_law "law" (defScope s_law) f cdv A outer s H E).nox.A) (env := (cxOf CX0 P w K mg base N_law "law" (defScope s_law) f cdv A outer s H E).nox.env)
  have hu := hr.units
  exact pds_cons (pds_for (js := [1]) hp rfl (pdi_range1 (by rfl) m_range (pd_callB (call_max2 rfl) o_max2 (by rfl) m_max (by decide +kernel) (pda_cons (pd_int) (pda_cons (pd_callB (call_min2 rfl) o_min2 (by rfl) m_min (by decide +kernel) (pda_cons (pd_int) (pda_cons (pd_callB call_len o_len (by rfl) m_len (by decide +kernel) (pda_cons (pd_var (pv 0)) (pda_nil))) (pda_nil)))) (pda_nil))))) (pdg_name (pg_name (i := 1) sc.nd rfl (.inl rfl)))
      (pds_cons (pds_set (i := 2) (np := 1) hn sc.nd rfl (.inr rfl) (pd_fn h__law_box gd (hr.mono (by decide)) takes0 rfl (pda_cons (pd_frz (pd_var (pv 0))) (pda_cons (pd_frz (pd_var (pv 1))) (pda_cons (pd_int) (pda_nil))))))
    (pds_one (pds_for (js := [3]) hp rfl (pdi_range1 (by rfl) m_range (pd_int)) (pdg_name (pg_name (i := 3) sc.nd rfl (.inl rfl)))
      (pds_cons (pds_setLc (i := 4) (np := 1) (own := [("_law_at", 12)]) (js := [12]) hn rfl sc.nd rfl rfl (sw_true rfl rfl rfl (by decide +kernel)) (pdi_range1 (by rfl) m_range (pd_bin op_addA o_add (pd_int) (pd_fn h__law_take gd (hr.mono (by decide)) takes0 rfl (pda_cons (pd_var (pv 2)) (pda_cons (pd_int) (pda_nil)))))) (blkOk_by (N := N_law) (sc := defScope s_law) (by decide +kernel)) (by decide) (fun _ _ _ _ _ => pdg_name (pg_name (i := 12) sc.nd rfl (.inl rfl))) (fun _ _ _ _ _ => pts_yes) (fun _ _ _ _ _ => pd_fn h__law_value gd (hr.mono (by decide)) takes0 rfl (pda_cons (pd_var (pv 2)) (pda_nil))))
    (pds_cons (pds_par (i := 5) (j := 6) (np := 1) hn rfl sc.nd rfl rfl (by decide) rfl rfl (pda_cons (pd_lc (own := [("_law_number", 13)]) (js := [13]) (by rfl) sc.nd (pdi_seq (pd_var (pv 4))) (blkOk_by (N := N_law) (sc := defScope s_law) (by decide +kernel)) (by decide) (fun _ _ _ _ _ => pdg_name (pg_name (i := 13) sc.nd rfl (.inl rfl))) (fun _ _ _ _ _ => pts_yes) (fun _ _ _ _ _ => pd_fn h__law_pair gd (hr.mono (by decide)) takes0 rfl (pda_cons (pd_frz (pd_var (pv 13))) (pda_nil)))) (pda_cons (pd_tup (pda_cons (pd_int) (pda_cons (pd_int) (pda_nil)))) pda_nil)) (by rfl) (by rfl))
    (pds_cons (pds_for (js := [7]) hp rfl (pdi_seq (pd_var (pv 5))) (pdg_name (pg_name (i := 7) sc.nd rfl (.inl rfl)))
      (pds_one (pds_for (js := [8]) hp rfl (pdi_seq (pd_var (pv 5))) (pdg_name (pg_name (i := 8) sc.nd rfl (.inl rfl)))
      (pds_cons (pds_set (i := 9) (np := 1) hn sc.nd rfl (.inl rfl) (pd_fn h__law_plus gd (hr.mono (by decide)) takes0 rfl (pda_cons (pd_frz (pd_var (pv 7))) (pda_cons (pd_tup (pda_cons (pd_bin op_sub o_sub (pd_int) (pd_ixR ix_seq o_ix (pd_var (pv 8)) (pd_int) (fun _ _ => rfl))) (pda_cons (pd_ixR ix_seq o_ix (pd_var (pv 8)) (pd_int) (fun _ _ => rfl)) (pda_nil)))) (pda_nil)))))
    (pds_one (pds_set (i := 6) (np := 1) hn sc.nd rfl (.inl rfl) (pd_if (pdt_val (pd_fn h__law_less gd (hr.mono (by decide)) takes0 rfl (pda_cons (pd_frz (pd_var (pv 6))) (pda_cons (pd_frz (pd_var (pv 9))) (pda_nil))))) (pd_var (pv 9)) (pd_var (pv 6)))))))))
    (pds_cons (pds_set (i := 10) (np := 1) hn sc.nd rfl (.inl rfl) (pd_callTy call_list_of o_listOf (by rfl) m_list (by decide +kernel) (pda_cons (pd_var (pv 4)) (pda_nil))))
    (pds_cons (pds_if (pdt_w (pdw_or (pdt_cmp (op_neA hu) o_ne (pd_callB (call_repr gd hu) o_repr (by rfl) m_repr (by decide +kernel) (pda_cons (pd_fn h_spread gd (hr.mono (by decide)) takes0 rfl (pda_cons (pd_frz (pd_var (pv 10))) (pda_nil))) (pda_nil))) (pd_callB (call_repr gd hu) o_repr (by rfl) m_repr (by decide +kernel) (pda_cons (pd_var (pv 6)) (pda_nil))) (nomark _)) (pdw_or (pdt_cmp (op_neA hu) o_ne (pd_fn h_spread gd (hr.mono (by decide)) takes0 rfl (pda_cons (pd_callTy call_tuple_of o_tupOf (by rfl) m_tuple (by decide +kernel) (pda_cons (pd_fn h__law_mixed gd (hr.mono (by decide)) takes0 rfl (pda_cons (pd_var (pv 2)) (pda_cons (pd_frz (pd_var (pv 4))) (pda_nil)))) (pda_nil))) (pda_nil))) (pd_var (pv 6)) (nomark _)) (pdw_one_or (pdt_cmp (op_neA hu) o_ne (pd_var (pv 10)) (pd_var (pv 4)) (nomark _))))))
      (pds_one (pds_ret (pd_bl)))
      (pds_nil))
    (pds_cons (pds_set (i := 11) (np := 1) hn sc.nd rfl (.inr rfl) (pd_bin op_sub o_sub (pd_fn h__law_take gd (hr.mono (by decide)) takes0 rfl (pda_cons (pd_var (pv 2)) (pda_cons (pd_int) (pda_nil)))) (pd_int)))
    (pds_one (pds_if (pdt_w (pdw_or (pdt_cmp (op_neA hu) o_ne (pd_fn h_spread gd (hr.mono (by decide)) takes0 rfl (pda_cons (pd_frz (pd_lc (own := [("_law_pair_here", 14)]) (js := [14]) (by rfl) sc.nd (pdi_seq (pd_var (pv 5))) (blkOk_by (N := N_law) (sc := defScope s_law) (by decide +kernel)) (by decide) (fun _ _ _ _ _ => pdg_name (pg_name (i := 14) sc.nd rfl (.inl rfl))) (fun _ _ _ _ _ => pts_yes) (fun _ _ _ _ _ => pd_fn h__law_plus gd (hr.mono (by decide)) takes0 rfl (pda_cons (pd_frz (pd_var (pv 14))) (pda_cons (pd_tup (pda_cons (pd_frz (pd_var (pv 11))) (pda_cons (pd_int) (pda_nil)))) (pda_nil)))))) (pda_nil))) (pd_var (pv 6)) (nomark _)) (pdw_one_or (pdt_cmp (op_neA hu) o_ne (pd_fn h_spread gd (hr.mono (by decide)) takes0 rfl (pda_cons (pd_frz (pd_bin op_mulA o_mul (pd_lst (pda_cons (pd_ixR ix_seq o_ix (pd_var (pv 5)) (pd_int) (fun _ _ => rfl)) (pda_nil))) (pd_int))) (pda_nil))) (pd_tup (pda_cons (pd_int) (pda_cons (pd_int) (pda_nil)))) (nomark _)))))
      (pds_one (pds_ret (pd_bl)))
      (pds_nil)))))))))))))
    (pds_one (pds_ret (pd_and (pd_cmp (op_eqA hu) o_eq (pd_fn h_spread gd (hr.mono (by decide)) takes0 rfl (pda_cons (pd_frz (pd_lst (pda_cons (pd_int) (pda_nil)))) (pda_nil))) (pd_tup (pda_cons (pd_int) (pda_cons (pd_int) (pda_nil)))) (nomark _)) (pd_and (pd_cmp (op_eqA hu) o_eq (pd_fn h_spread gd (hr.mono (by decide)) takes0 rfl (pda_cons (pd_frz (pd_lst (pda_cons (pd_int) (pda_cons (pd_tup (pda_cons (pd_int) (pda_cons (pd_int) (pda_nil)))) (pda_nil))))) (pda_nil))) (pd_tup (pda_cons (pd_int) (pda_cons (pd_int) (pda_nil)))) (nomark _)) (pd_one (pd_cmp (op_eqA hu) o_eq (pd_fn h_spread gd (hr.mono (by decide)) takes0 rfl (pda_cons (pd_frz (pd_lst (pda_cons (pd_tup (pda_cons (pd_int) (pda_cons (pd_int) (pda_nil)))) (pda_cons (pd_tup (pda_cons (pd_neg (pd_int)) (pda_cons (pd_int) (pda_nil)))) (pda_nil))))) (pda_nil))) (pd_tup (pda_cons (pd_int) (pda_cons (pd_int) (pda_nil)))) (nomark _)))))))
end K35
set_option Elab.async false
set_option linter.all false
set_option maxRecDepth 100000
set_option maxHeartbeats 1000000
namespace K35
open PySem PySem.Spec PyProof.Rows L2 Tk Pl
def bx (a b c : Int) : Option SV := some (.own (.lst [.int a, .int b, .int c]))
theorem take_ok (a b c m : Int) (h0 : 0 < m) (h1 : m < 2 ^ 40) : ∃ d a' b' c', 0 ≤ d ∧ d < m ∧ F__law_take [bx a b c, some (.dat (.int m))] = some (.ok (.dat (.int d)) [bx a' b' c', none]) := by
  have hd : ∀ x, cDiv x m = true := fun x => cDiv_ok h0 (by omega)
  by_cases ha : 0 < a
  · refine ⟨a % m, a / m, b, c, Int.emod_nonneg _ (by omega), Int.emod_lt_of_pos _ h0, ?_⟩
    simp [F__law_take, g__law_take, bx, ha, h0, hd]
  · have hm : m < 1099511627776 := by omega
    obtain ⟨raw, hraw⟩ : ∃ x, x = (b + 104729 * (c + 1)) * 69827 % 2147483647 := ⟨_, rfl⟩
    obtain ⟨sd, hsd⟩ : ∃ x, x = (raw * 48271 + 30103) % 2147483629 + 1 := ⟨_, rfl⟩
    refine ⟨(raw * 2147483647 + sd) / 8191 % m, a, sd, c + 1, Int.emod_nonneg _ (by omega), Int.emod_lt_of_pos _ h0, ?_⟩
    simp [F__law_take, g__law_take, bx, ha, h0, hd, cMul_left, cMul_right, cDiv_ok, cPow, hm, ← hraw, ← hsd]
theorem pick_ok (a b c : Int) (l : List D) (h0 : 0 < l.length) (h1 : l.length ≤ 10000) : ∃ x a' b' c', x ∈ l ∧ F__law_pick [bx a b c, some (.dat (.lst l))] = some (.ok (.dat x) [bx a' b' c', none]) := by
  obtain ⟨d, a', b', c', d0, d1, e⟩ := take_ok a b c l.length (by omega) (by omega)
  have hl : d.toNat < l.length := by omega
  refine ⟨l[d.toNat], a', b', c', List.getElem_mem hl, ?_⟩
  unfold bx at e ⊢
  simp [F__law_pick, g__law_pick, e, atI_of l d d0 hl]
/-- _law_mixed: the same things in some order -/
theorem mixed_ok (a b c : Int) (l : List D) (h1 : l.length ≤ 1000) : ∃ l' a' b' c', l'.length = l.length ∧ (∀ x, x ∈ l' ↔ x ∈ l) ∧ F__law_mixed [bx a b c, some (.dat (.lst l))] = some (.ok (.own (.lst l')) [bx a' b' c', none]) := by
  let I : List D → Sl → Prop := fun ds ρ => ∃ a' b' c' left found v, ρ = [bx a' b' c', some (.dat (.lst l)), some (.own (.lst left)), some (.own (.lst found)), v] ∧ ds.length = left.length ∧ found.length + left.length = l.length ∧ ∀ x, (x ∈ found ∨ x ∈ left) ↔ x ∈ l
  obtain ⟨ρ', ⟨a', b', c', left, found, v, rfl, e1, e2, e3⟩, e⟩ := loopS_inv (tg := tgN 4) (body := b__law_mixed_1) I (by
    rintro d r ρ ⟨a', b', c', left, found, v, rfl, e1, e2, e3⟩
    simp only [List.length_cons] at e1
    obtain ⟨j, a2, b2, c2, j0, j1, ej⟩ := take_ok a' b' c' left.length (by omega) (by omega)
    have hj : j.toNat < left.length := by omega
    refine ⟨_, [bx a2 b2 c2, some (.dat (.lst l)), some (.own (.lst (left.eraseIdx j.toNat))), some (.own (.lst (found ++ [left[j.toNat]]))), some (.dat d)], rfl, .inl ?_, a2, b2, c2, _, _, _, rfl, ?_, ?_, ?_⟩
    · unfold bx at ej ⊢
      have s : seqIndex? j left.length = some j.toNat := by
        unfold seqIndex?
        have h1 : ¬ j < 0 := by omega
        simp [h1]
        omega
      have f1 : found.length < 10000 := by omega
      have b1 : j.natAbs ≤ 100000 := by omega
      simp [b__law_mixed_1, ej, gPopAt, s, hj, b1, f1]
    · rw [List.length_eraseIdx_of_lt hj]
      omega
    · rw [List.length_append, List.length_singleton, List.length_eraseIdx_of_lt hj]
      omega
    · intro x
      rw [← e3 x]
      have := List.mem_eraseIdx_iff_getElem (l := left) (k := j.toNat) (x := x)
      constructor
      · rintro (h | h)
        · rcases List.mem_append.mp h with h | h
          · exact .inl h
          · rw [List.mem_singleton.mp h]; exact .inr (List.getElem_mem hj)
        · exact .inr (List.mem_of_mem_eraseIdx h)
      · rintro (h | h)
        · exact .inl (List.mem_append_left _ h)
        · obtain ⟨i, hi, rfl⟩ := List.getElem_of_mem h
          by_cases hij : i = j.toNat
          · subst hij
            exact .inl (List.mem_append_right _ (by simp))
          · refine .inr ?_
            rw [List.mem_eraseIdx_iff_getElem]
            exact ⟨i, hi, hij, rfl⟩) (rangeL 0 l.length) [bx a b c, some (.dat (.lst l)), some (.own (.lst l)), some (.own (.lst [])), none] ⟨a, b, c, l, [], none, rfl, rangeL_length _ _, by simp, by simp⟩
  have hl : left = [] := List.eq_nil_of_length_eq_zero (by simpa using e1.symm)
  subst hl
  refine ⟨found, a', b', c', by simpa using e2, fun x => by simpa using e3 x, ?_⟩
  have n1 : l.length ≤ 100000 := by omega
  unfold bx at e ⊢
  simp [F__law_mixed, g__law_mixed, n1, e]
/-- _law_ratio: in lowest terms -/
theorem ratio_loop : ∀ (n x y : Nat) (o0 o1 : Option SV), y < n → loopW (asB (dBin gNe (dVar 3) (retE (.dat (.int 0))))) b__law_ratio_1 n [o0, o1, some (.dat (.int x)), some (.dat (.int y))] = some (.nx [o0, o1, some (.dat (.int (Nat.gcd x y : Nat))), some (.dat (.int 0))])
  | 0, _, _, _, _, h => absurd h (Nat.not_lt_zero _)
  | n + 1, x, y, o0, o1, h => by
    unfold loopW
    by_cases hy : y = 0
    · subst hy
      simp
    · have hy' : ¬ ((y : Int) = 0) := by omega
      have hp : (0 : Int) < (y : Int) := by omega
      have ih := ratio_loop n y (x % y) o0 o1 (by have := Nat.mod_lt x (show 0 < y by omega); omega)
      have hp' : 0 < y := by omega
      simp [hy', hy, b__law_ratio_1, hp, hp']
      have e : ((x : Int) % (y : Int)) = ((x % y : Nat) : Int) := by omega
      unfold b__law_ratio_1 at ih
      rw [e, ih, Nat.gcd_comm y, ← Nat.gcd_rec, Nat.gcd_comm]
theorem ratio_ok (u l : Int) (h : 0 < l) (h9 : l < 2 ^ 200) : F__law_ratio [some (.dat (.int u)), some (.dat (.int l))] = some (.ok (.dat (red (Rat.divInt u l))) [none, none]) := by
  have hl : ((l.natAbs : Nat) : Int) = l := by omega
  have hu : (if u < 0 then -u else u) = (u.natAbs : Int) := by split <;> omega
  have lp := ratio_loop (l.natAbs + 1) u.natAbs l.natAbs (some (.dat (.int u))) (some (.dat (.int l))) (Nat.lt_succ_self _)
  rw [hl] at lp
  have c1 : ∀ x, cDiv x ((Nat.gcd u.natAbs l.natAbs : Nat) : Int) = true := fun x => cDiv_gcd h h9
  simp [F__law_ratio, g__law_ratio, hu, natAt, lp, c1, red_div h]
theorem plus_ok (x y : Rat) (hx : (x.den : Int) < 2 ^ 60) (hy : (y.den : Int) < 2 ^ 60) : F__law_plus [some (.dat (red x)), some (.dat (red y))] = some (.ok (.dat (red (x + y))) [none, none]) := by
  have px := den_pos x
  have py := den_pos y
  have m1 : cMul x.num (y.den : Int) = true := cMul_right (by omega)
  have m2 : cMul y.num (x.den : Int) = true := cMul_right (by omega)
  have m3 : cMul (x.den : Int) (y.den : Int) = true := cMul_right (by omega)
  have hp : 0 < (x.den : Int) * (y.den : Int) := Int.mul_pos px py
  have h9 : (x.den : Int) * (y.den : Int) < 2 ^ 200 := by
    have h1 : (x.den : Int) * (y.den : Int) < 2 ^ 60 * 2 ^ 60 := Int.mul_lt_mul hx (Int.le_of_lt hy) py (by decide)
    exact Int.lt_of_lt_of_le h1 (by decide)
  have r := ratio_ok (x.num * (y.den : Int) + y.num * (x.den : Int)) ((x.den : Int) * (y.den : Int)) hp h9
  rw [add_red] at r
  unfold red at r
  simp [F__law_plus, g__law_plus, red, m1, m2, m3, r]
theorem less_ok (x y : Rat) (hx : (x.den : Int) < 2 ^ 60) (hy : (y.den : Int) < 2 ^ 60) : F__law_less [some (.dat (red x)), some (.dat (red y))] = some (.ok (.dat (.bl (decide (x < y)))) [none, none]) := by
  have px := den_pos x
  have py := den_pos y
  have m1 : cMul x.num (y.den : Int) = true := cMul_right (by omega)
  have m2 : cMul y.num (x.den : Int) = true := cMul_right (by omega)
  simp [F__law_less, g__law_less, red, m1, m2, Rat.lt_iff]
end K35
set_option Elab.async false
set_option linter.all false
set_option maxRecDepth 100000
set_option maxHeartbeats 1000000
namespace K35
open PySem PySem.Spec PyProof.Rows L2 Tk Pl
/-- a value as the document has it -/
def valOf : D → Rat
  | .int z => z
  | .tup [.int t, .int q] => Rat.divInt t q
  | _ => 0
def okV (b : Nat) (v : D) : Prop := (∃ z : Int, v = .int z ∧ z.natAbs ≤ b) ∨ ∃ t q : Int, v = .tup [.int t, .int q] ∧ 0 < q ∧ q ≤ 12 ∧ t.natAbs ≤ b
theorem red_val (r : Rat) : valOf (red r) = r := Rat.num_divInt_den r
theorem okV_red {b : Nat} {v : D} (h : okV b v) : okV b (red (valOf v)) := by
  rcases h with ⟨z, rfl, hz⟩ | ⟨t, q, rfl, q0, q1, ht⟩
  · exact .inr ⟨_, _, rfl, den_pos _, by simp [valOf], by simpa [valOf] using hz⟩
  · exact .inr ⟨_, _, rfl, den_pos _, Int.le_trans (den_le q0) q1, Nat.le_trans (num_le q0) ht⟩
theorem okV_mono {b b' : Nat} {v : D} (h : okV b v) (hb : b ≤ b') : okV b' v := by
  rcases h with ⟨z, rfl, hz⟩ | ⟨t, q, rfl, q0, q1, ht⟩
  · exact .inl ⟨z, rfl, Nat.le_trans hz hb⟩
  · exact .inr ⟨t, q, rfl, q0, q1, Nat.le_trans ht hb⟩
theorem okV_den {b : Nat} {v : D} (h : okV b v) : ((valOf v).den : Int) ≤ 12 := by
  rcases h with ⟨z, rfl, hz⟩ | ⟨t, q, rfl, q0, q1, ht⟩
  · simp [valOf]
  · exact Int.le_trans (den_le q0) q1
theorem okV_num {b : Nat} {v : D} (h : okV b v) : (valOf v).num.natAbs ≤ b := by
  rcases h with ⟨z, rfl, hz⟩ | ⟨t, q, rfl, q0, q1, ht⟩
  · simpa [valOf] using hz
  · exact Nat.le_trans (num_le q0) ht
theorem red_int (z : Int) : red (z : Rat) = .tup [.int z, .int 1] := by simp [red]
theorem pair_ok {b : Nat} {v : D} (h : okV b v) : F__law_pair [some (.dat v)] = some (.ok (.dat (red (valOf v))) [none]) := by
  rcases h with ⟨z, rfl, hz⟩ | ⟨t, q, rfl, q0, q1, ht⟩
  · have r := ratio_ok z 1 (by decide) (by decide)
    rw [int_red] at r
    simp [F__law_pair, g__law_pair, kindD, isKind, r, valOf]
  · have r := ratio_ok t q q0 (by omega)
    simp [F__law_pair, g__law_pair, kindD, isKind, r, valOf]
theorem lowest_ok (t b : Int) (h : 0 < b) (h9 : b < 2 ^ 200) : F_lowest [some (.dat (.int t)), some (.dat (.int b))] = some (.ok (.dat (red (Rat.divInt t b))) [none, none]) := by
  have c1 : ∀ x, cDiv x ((Nat.gcd t.natAbs b.natAbs : Nat) : Int) = true := fun x => cDiv_gcd h h9
  simp [F_lowest, g_lowest, c1, red_div h]
theorem as_pair_ok {b : Nat} {v : D} (h : okV b v) : F_as_pair [some (.dat v)] = some (.ok (.dat (red (valOf v))) [none]) := by
  rcases h with ⟨z, rfl, hz⟩ | ⟨t, q, rfl, q0, q1, ht⟩
  · simp [F_as_pair, g_as_pair, F_is_pair, g_is_pair, kindD, isKind, valOf, red_int]
  · have r := lowest_ok t q q0 (by omega)
    simp [F_as_pair, g_as_pair, F_is_pair, g_is_pair, kindD, isKind, r, valOf]
/-- a value that is drawn -/
theorem value_ok (a b c : Int) : ∃ v a' b' c', okV 1000000 v ∧ F__law_value [bx a b c] = some (.ok (.dat v) [bx a' b' c']) := by
  obtain ⟨d, a1, b1, c1, d0, d1, e1⟩ := take_ok a b c 40 (by decide) (by decide)
  obtain ⟨x, a2, b2, c2, hx, e2⟩ := pick_ok a1 b1 c1 [.int 0, .int 1, .int 1000000, .int (-7), .int (d - 20)] (by simp) (by simp)
  obtain ⟨f, a3, b3, c3, f0, f1, e3⟩ := take_ok a2 b2 c2 2 (by decide) (by decide)
  obtain ⟨z, rfl, hz⟩ : ∃ z : Int, x = .int z ∧ z.natAbs ≤ 1000000 := by
    simp only [List.mem_cons, List.not_mem_nil, or_false] at hx
    rcases hx with rfl | rfl | rfl | rfl | rfl <;> exact ⟨_, rfl, by omega⟩
  unfold bx at e1 e2 e3 ⊢
  by_cases hf : f = 0
  · refine ⟨.int z, a3, b3, c3, .inl ⟨z, rfl, hz⟩, ?_⟩
    simp [F__law_value, g__law_value, e1, e2, e3, hf, cPow]
  · obtain ⟨q, a4, b4, c4, q0, q1, e4⟩ := take_ok a3 b3 c3 12 (by decide) (by decide)
    refine ⟨.tup [.int z, .int (1 + q)], a4, b4, c4, .inr ⟨z, 1 + q, rfl, by omega, by omega, hz⟩, ?_⟩
    unfold bx at e4
    simp [F__law_value, g__law_value, e1, e2, e3, e4, hf, cPow]
/-- a box is made -/
theorem box_ok (ns : List Int) (k : Nat) (hk : k < 63) : ∃ a b c, F__law_box [some (.dat (.wri (ns.map D.int))), some (.dat (.int k)), some (.dat (.int 35))] = some (.ok (.own (.lst [.int a, .int b, .int c])) [none, none, none]) := by
  have pick : ∀ (x y : D) (cell : Int), atI [x, y] (if 1000000000000000000 ≤ cell then 1 else 0) = some (if 1000000000000000000 ≤ cell then y else x) := by
    intro x y cell
    split <;> simp
  have fin : ∀ cell : Int, ∃ z, (if 1000000000000000000 ≤ cell then D.int cell else D.int 0) = D.int z := by
    intro cell
    split <;> exact ⟨_, rfl⟩
  by_cases h1 : k < ns.length
  · have e : atI (ns.map D.int) (k : Int) = some (.int ns[k]) := by
      apply atI_nat
      simp [h1]
    have h1' : (k : Int) < (ns.length : Int) := by omega
    obtain ⟨z, hz⟩ := fin (if ns[k] < 0 then -ns[k] else ns[k])
    refine ⟨z, ((if ns[k] < 0 then -ns[k] else ns[k]) % 2147483629 * 48271 + 40692 * (k + 385)) % 2147483629 + 1, 0, ?_⟩
    simp [F__law_box, g__law_box, cMul_left, cMul_right, h1, e, cPow, pick, hz]
  · by_cases h2 : 0 < ns.length
    · have hp : (0 : Int) < (ns.length : Int) := by omega
      have lt : k % ns.length < ns.length := Nat.mod_lt _ h2
      have e : atI (ns.map D.int) ((k : Int) % (ns.length : Int)) = some (.int ns[k % ns.length]) := by
        rw [← Int.natCast_emod]
        apply atI_nat
        simp [lt]
      obtain ⟨cell, hcell⟩ : ∃ x, x = 9001 * (k : Int) + 3668945 + 89 + (if ns[k % ns.length] < 0 then -ns[k % ns.length] else ns[k % ns.length]) % 2147483629 * 69827 := ⟨_, rfl⟩
      obtain ⟨z, hz⟩ := fin cell
      refine ⟨z, (cell % 2147483629 * 48271 + 40692 * (k + 385)) % 2147483629 + 1, 0, ?_⟩
      simp [F__law_box, g__law_box, cMul_left, cMul_right, h1, h2, hp, e, cPow, pick, ← hcell, hz]
    · obtain ⟨cell, hcell⟩ : ∃ x, x = 9001 * (k : Int) + 3668945 + 89 := ⟨_, rfl⟩
      obtain ⟨z, hz⟩ := fin cell
      refine ⟨z, (cell % 2147483629 * 48271 + 40692 * (k + 385)) % 2147483629 + 1, 0, ?_⟩
      simp [F__law_box, g__law_box, cMul_left, cMul_right, h1, h2, cPow, pick, ← hcell, hz]
end K35
set_option Elab.async false
set_option linter.all false
set_option maxRecDepth 100000
set_option maxHeartbeats 1000000
namespace K35
open PySem PySem.Spec PyProof.Rows L2 Tk Pl
def lcmN (g : Nat) (qs : List Nat) : Nat := qs.foldl Nat.lcm g
theorem lcmN_pos : ∀ (qs : List Nat) (g : Nat), 0 < g → (∀ q ∈ qs, 0 < q) → 0 < lcmN g qs ∧ g ∣ lcmN g qs ∧ ∀ q ∈ qs, q ∣ lcmN g qs
  | [], g, h, _ => ⟨h, Nat.dvd_refl _, fun q hq => by cases hq⟩
  | x :: r, g, h, hq => by
    obtain ⟨a, b, c⟩ := lcmN_pos r (Nat.lcm g x) (Nat.lcm_pos h (hq x List.mem_cons_self)) fun q hq' => hq q (List.mem_cons_of_mem _ hq')
    refine ⟨a, Nat.dvd_trans (Nat.dvd_lcm_left _ _) b, fun q hq' => ?_⟩
    rcases List.mem_cons.mp hq' with rfl | hq'
    · exact Nat.dvd_trans (Nat.dvd_lcm_right _ _) b
    · exact c q hq'
theorem lcmN_le : ∀ (qs : List Nat) (g : Nat), 0 < g → (∀ q ∈ qs, 0 < q ∧ q ≤ 12) → lcmN g qs ≤ g * 12 ^ qs.length
  | [], g, h, _ => by simp [lcmN]
  | x :: r, g, h, hq => by
    have hx := hq x List.mem_cons_self
    have := lcmN_le r (Nat.lcm g x) (Nat.lcm_pos h hx.1) fun q hq' => hq q (List.mem_cons_of_mem _ hq')
    have le : Nat.lcm g x ≤ g * 12 := Nat.le_trans (Nat.le_of_dvd (Nat.mul_pos h hx.1) (Nat.lcm_dvd_mul g x)) (Nat.mul_le_mul_left g hx.2)
    refine Nat.le_trans this ?_
    rw [List.length_cons, Nat.pow_succ, Nat.mul_comm (12 ^ r.length) 12, ← Nat.mul_assoc]
    exact Nat.mul_le_mul_right _ le
theorem cm_loop : ∀ (qs : List Nat) (g : Nat) (x : Option SV) (v : Option SV), 0 < g → (∀ q ∈ qs, 0 < q ∧ q ≤ 12) → g * 12 ^ qs.length ≤ 12 ^ 12 → ∃ v', loopS (tgN 2) b_common_multiple_1 (qs.map fun (q : Nat) => D.int (q : Int)) [x, some (.dat (.int g)), v] = some (.nx [x, some (.dat (.int (lcmN g qs : Nat))), v'])
  | [], g, x, v, _, _, _ => ⟨v, rfl⟩
  | q :: r, g, x, v, h, hq, hb => by
    have hx := hq q List.mem_cons_self
    have le : Nat.lcm g q ≤ g * 12 := Nat.le_trans (Nat.le_of_dvd (Nat.mul_pos h hx.1) (Nat.lcm_dvd_mul g q)) (Nat.mul_le_mul_left g hx.2)
    have hb' : g * 12 * 12 ^ r.length ≤ 12 ^ 12 := by
      rw [List.length_cons, Nat.pow_succ, Nat.mul_comm (12 ^ r.length) 12, ← Nat.mul_assoc] at hb
      exact hb
    have gs : g * 12 ≤ 12 ^ 12 := Nat.le_trans (Nat.le_mul_of_pos_right _ (Nat.pow_pos (by decide))) hb'
    obtain ⟨v', e⟩ := cm_loop r (Nat.lcm g q) x (some (.dat (.int q))) (Nat.lcm_pos h hx.1) (fun q' h' => hq q' (List.mem_cons_of_mem _ h')) (Nat.le_trans (Nat.mul_le_mul_right _ le) hb')
    refine ⟨v', ?_⟩
    have c1 : cLcm (g : Int) (q : Int) = true := cLcm_ok (by omega) (by omega)
    rw [List.map_cons, ev_loopS_cons]
    simp [b_common_multiple_1, c1]
    exact e
theorem cm_ok (qs : List Nat) (h : ∀ q ∈ qs, 0 < q ∧ q ≤ 12) (hl : qs.length ≤ 12) : F_common_multiple [some (.dat (.lst (qs.map fun (q : Nat) => D.int (q : Int))))] = some (.ok (.dat (.int (lcmN 1 qs : Nat))) [none]) := by
  obtain ⟨v', e⟩ := cm_loop qs 1 (some (.dat (.lst (qs.map fun (q : Nat) => D.int (q : Int))))) none (by decide) h (by rw [Nat.one_mul]; exact Nat.pow_le_pow_right (by decide) hl)
  have e : loopS (tgN 2) b_common_multiple_1 (qs.map fun (q : Nat) => D.int (q : Int)) [some (.dat (.lst (qs.map fun (q : Nat) => D.int (q : Int)))), some (.dat (.int 1)), none] = some (.nx [some (.dat (.lst (qs.map fun (q : Nat) => D.int (q : Int)))), some (.dat (.int (lcmN 1 qs : Nat))), v']) := e
  simp [F_common_multiple, g_common_multiple, e]
/-- the tops if all get one bottom -/
def topD (L : Nat) (r : Rat) : Int := r.num * ((L / r.den : Nat) : Int)
theorem even_ok (rs : List Rat) (hl : rs.length ≤ 12) (h : ∀ r ∈ rs, r.den ≤ 12) : F_even_tops [some (.dat (.lst (rs.map red)))] = some (.ok (.dat (.tup [.lst (rs.map fun r => .int (topD (lcmN 1 (rs.map (·.den))) r)), .int (lcmN 1 (rs.map (·.den)) : Nat)])) [none]) := by
  have hq : ∀ q ∈ rs.map (·.den), 0 < q ∧ q ≤ 12 := by
    intro q hq
    obtain ⟨r, hr, rfl⟩ := List.mem_map.mp hq
    exact ⟨r.den_pos, h r hr⟩
  have c := cm_ok (rs.map (·.den)) hq (by simpa using hl)
  obtain ⟨L0, _, Ld⟩ := lcmN_pos (rs.map (·.den)) 1 (by decide) fun q h => (hq q h).1
  have Lle := lcmN_le (rs.map (·.den)) 1 (by decide) hq
  obtain ⟨L, hL⟩ : ∃ L, L = lcmN 1 (rs.map (·.den)) := ⟨_, rfl⟩
  rw [← hL] at c L0 Ld Lle ⊢
  have Ls : L ≤ 12 ^ 12 := by
    rw [Nat.one_mul, List.length_map] at Lle
    exact Nat.le_trans Lle (Nat.pow_le_pow_right (by decide) hl)
  have m1 : ∀ (o1 : Option SV), loopC [2] (tgN 2) yesT (froze (dBin gIx (dVar 2) (retE (.dat (.int 1))))) (rs.map red) [] [some (.dat (.lst (rs.map red))), o1, none] = some (.ok (.own (.lst (rs.map fun r => .int (r.den : Int)))) [some (.dat (.lst (rs.map red))), o1, none]) := by
    intro o1
    have := loopC_map (i := 2) (fe := froze (dBin gIx (dVar 2) (retE (.dat (.int 1))))) (fun d => match d with | .tup [_, q] => q | _ => .non) (ρ := [some (.dat (.lst (rs.map red))), o1, none]) (fun x => rfl) (rs.map red) [] (by
      intro d hd
      obtain ⟨r, _, rfl⟩ := List.mem_map.mp hd
      simp [red]) (by simp; omega)
    rw [this]
    simp [red, Function.comp_def]
  have m2 : ∀ (x : Option SV), loopC [2] (tgN 2) yesT (froze (dBin gMul (dBin gIx (dVar 2) (retE (.dat (.int 0)))) (dBin gFdiv (dVar 1) (dBin gIx (dVar 2) (retE (.dat (.int 1))))))) (rs.map red) [] [x, some (.dat (.int L)), none] = some (.ok (.own (.lst (rs.map fun r => .int (topD L r)))) [x, some (.dat (.int L)), none]) := by
    intro x
    have := loopC_map (i := 2) (fe := froze (dBin gMul (dBin gIx (dVar 2) (retE (.dat (.int 0)))) (dBin gFdiv (dVar 1) (dBin gIx (dVar 2) (retE (.dat (.int 1))))))) (fun d => match d with | .tup [.int p, .int q] => .int (p * ((L : Int) / q)) | _ => .non) (ρ := [x, some (.dat (.int L)), none]) (fun _ => rfl) (rs.map red) [] (by
      intro d hd
      obtain ⟨r, hr, rfl⟩ := List.mem_map.mp hd
      have rp := r.den_pos
      have rl := h r hr
      have c1 : cDiv (L : Int) (r.den : Int) = true := cDiv_ok (by omega) (by omega)
      have c2 : cMul r.num ((L : Int) / (r.den : Int)) = true := by
        refine cMul_right ?_
        have : (L : Int) / (r.den : Int) ≤ L := Int.ediv_le_self _ (by omega)
        have : 0 ≤ (L : Int) / (r.den : Int) := Int.ediv_nonneg (by omega) (by omega)
        omega
      simp [red, c1, c2]) (by simp; omega)
    rw [this]
    simp [red, Function.comp_def, topD]
  have c' : F_common_multiple [some (.dat (.lst (rs.map fun r => .int (r.den : Int))))] = some (.ok (.dat (.int L)) [none]) := by
    rw [List.map_map] at c
    exact c
  simp [F_even_tops, g_even_tops, m1, m2, c']
end K35
set_option Elab.async false
set_option linter.all false
set_option maxRecDepth 100000
set_option maxHeartbeats 1000000
namespace K35
open PySem PySem.Spec PyProof.Rows L2 Tk Pl
/-- V is the greatest difference of two of rs -/
def IsSpread (V : Rat) (rs : List Rat) : Prop := ∃ M ∈ rs, ∃ m ∈ rs, V = M - m ∧ ∀ r ∈ rs, m ≤ r ∧ r ≤ M
theorem IsSpread.one {V V' : Rat} {rs rs' : List Rat} (h : IsSpread V rs) (h' : IsSpread V' rs') (e : ∀ r, r ∈ rs ↔ r ∈ rs') : V = V' := by
  obtain ⟨M, hM, m, hm, rfl, b⟩ := h
  obtain ⟨M', hM', m', hm', rfl, b'⟩ := h'
  have h1 := (b M' ((e M').mpr hM')).2
  have h2 := (b' M ((e M).mp hM)).2
  have h3 := (b m' ((e m').mpr hm')).1
  have h4 := (b' m ((e m).mp hm)).1
  grind
theorem IsSpread.shift {V : Rat} {rs : List Rat} (c : Rat) (h : IsSpread V rs) : IsSpread V (rs.map (· + c)) := by
  obtain ⟨M, hM, m, hm, rfl, b⟩ := h
  refine ⟨M + c, List.mem_map.mpr ⟨M, hM, rfl⟩, m + c, List.mem_map.mpr ⟨m, hm, rfl⟩, by grind, fun r hr => ?_⟩
  obtain ⟨s, hs, rfl⟩ := List.mem_map.mp hr
  have := b s hs
  constructor <;> grind
theorem top_eq {L : Nat} {r : Rat} (h : r.den ∣ L) (L0 : 0 < L) : Rat.divInt (topD L r) (L : Int) = r := by
  obtain ⟨k, rfl⟩ := h
  have rp := r.den_pos
  have kp : 0 < k := by
    rcases Nat.eq_zero_or_pos k with h | h
    · subst h; simp at L0
    · exact h
  unfold topD
  rw [Nat.mul_div_cancel_left _ rp, Int.natCast_mul, Rat.divInt_mul_right (by omega), Rat.num_divInt_den]
theorem div_sub {a b c : Int} (h : c ≠ 0) : Rat.divInt (a - b) c = Rat.divInt a c - Rat.divInt b c := by
  rw [Rat.divInt_sub_divInt _ _ h h, ← Int.sub_mul, Rat.divInt_mul_right h]
theorem div_le {a b c : Int} (h : 0 < c) (hab : a ≤ b) : Rat.divInt a c ≤ Rat.divInt b c := by
  have : 0 ≤ Rat.divInt (b - a) c := Rat.divInt_nonneg (by omega) (by omega)
  rw [div_sub (by omega)] at this
  grind
theorem wholes_map (f : Rat → Int) : ∀ rs : List Rat, wholes (rs.map fun r => D.int (f r)) = some (rs.map f)
  | [] => rfl
  | r :: rs => by simp [wholes, wholes_map f rs]
theorem spread_ok (l : List D) (w : D) (hw : w = .lst l ∨ w = .tup l) (l0 : 0 < l.length) (l1 : l.length ≤ 12) (h : ∀ v ∈ l, okV 1000000000 v) :
    ∃ V : Rat, F_spread [some (.dat w)] = some (.ok (.dat (red V)) [none]) ∧ IsSpread V (l.map valOf) ∧ V.num.natAbs < 10 ^ 30 ∧ V.den < 10 ^ 30 := by
  have items : ∀ ρ : Sl, (match w with | .lst l => some (Res.ok l ρ) | .tup l => some (.ok l ρ) | _ => none) = some (.ok l ρ) := by
    intro ρ
    rcases hw with rfl | rfl <;> rfl
  have m1 : ∀ (o1 o2 : Option SV), loopC [3] (tgN 3) yesT (froze (dFn F_as_pair (dCons (froze (dVar 3)) dNil))) l [] [some (.dat w), o1, o2, none] = some (.ok (.own (.lst ((l.map valOf).map red))) [some (.dat w), o1, o2, none]) := by
    intro o1 o2
    have := loopC_map (i := 3) (fe := froze (dFn F_as_pair (dCons (froze (dVar 3)) dNil))) (fun d => red (valOf d)) (ρ := [some (.dat w), o1, o2, none]) (fun x => rfl) l [] (by
      intro d hd
      have := as_pair_ok (h d hd)
      simp [this]) (by simp; omega)
    rw [this]
    simp [Function.comp_def]
  have hd : ∀ r ∈ l.map valOf, r.den ≤ 12 := by
    intro r hr
    obtain ⟨v, hv, rfl⟩ := List.mem_map.mp hr
    have := okV_den (h v hv)
    omega
  have hnum : ∀ r ∈ l.map valOf, r.num.natAbs ≤ 1000000000 := by
    intro r hr
    obtain ⟨v, hv, rfl⟩ := List.mem_map.mp hr
    exact okV_num (h v hv)
  obtain ⟨rs, hrs⟩ : ∃ rs, rs = l.map valOf := ⟨_, rfl⟩
  have len : rs.length = l.length := by rw [hrs, List.length_map]
  rw [← hrs] at m1 hd hnum ⊢
  have ev := even_ok rs (by omega) hd
  have hq : ∀ q ∈ rs.map (·.den), 0 < q ∧ q ≤ 12 := by
    intro q hq
    obtain ⟨r, hr, rfl⟩ := List.mem_map.mp hq
    exact ⟨r.den_pos, hd r hr⟩
  obtain ⟨L0, _, Ld⟩ := lcmN_pos (rs.map (·.den)) 1 (by decide) fun q h => (hq q h).1
  have Lle := lcmN_le (rs.map (·.den)) 1 (by decide) hq
  obtain ⟨L, hL⟩ : ∃ L, L = lcmN 1 (rs.map (·.den)) := ⟨_, rfl⟩
  rw [← hL] at ev L0 Ld Lle
  have Ls : L ≤ 12 ^ 12 := by
    rw [Nat.one_mul, List.length_map] at Lle
    exact Nat.le_trans Lle (Nat.pow_le_pow_right (by decide) (by omega))
  have dv : ∀ r ∈ rs, r.den ∣ L := fun r hr => Ld _ (List.mem_map.mpr ⟨r, hr, rfl⟩)
  obtain ⟨mx1, mx2⟩ := maxI_spec (rs.map (topD L)) (by rw [List.length_map]; omega)
  obtain ⟨mn1, mn2⟩ := minI_spec (rs.map (topD L)) (by rw [List.length_map]; omega)
  obtain ⟨M, hM, eM⟩ := List.mem_map.mp mx1
  obtain ⟨m, hm, em⟩ := List.mem_map.mp mn1
  have tops : ∀ r ∈ rs, (topD L r).natAbs ≤ 1000000000 * 12 ^ 12 := by
    intro r hr
    unfold topD
    rw [Int.natAbs_mul]
    exact Nat.mul_le_mul (hnum r hr) (Nat.le_trans (Nat.div_le_self _ _) Ls)
  have tM := tops M hM
  have tm := tops m hm
  rw [eM] at tM
  rw [em] at tm
  refine ⟨Rat.divInt (maxI (rs.map (topD L)) - minI (rs.map (topD L))) L, ?_, ⟨M, hM, m, hm, ?_, fun r hr => ?_⟩, ?_, ?_⟩
  · have lw := lowest_ok (maxI (rs.map (topD L)) - minI (rs.map (topD L))) (L : Int) (by omega) (by omega)
    have rl : 0 < rs.length := by omega
    rcases hw with rfl | rfl <;> simp [F_spread, g_spread, m1, ev, hMaxL, hMinL, wholes_map, rl, lw]
  · rw [div_sub (by omega), ← eM, ← em, top_eq (dv M hM) L0, top_eq (dv m hm) L0]
  · have h1 := mx2 (topD L r) (List.mem_map.mpr ⟨r, hr, rfl⟩)
    have h2 := mn2 (topD L r) (List.mem_map.mpr ⟨r, hr, rfl⟩)
    have h3 := div_le (c := (L : Int)) (by omega) h1
    have h4 := div_le (c := (L : Int)) (by omega) h2
    rw [← eM, top_eq (dv r hr) L0, top_eq (dv M hM) L0] at h3
    rw [← em, top_eq (dv r hr) L0, top_eq (dv m hm) L0] at h4
    exact ⟨h4, h3⟩
  · refine Nat.lt_of_le_of_lt (num_le (by omega)) ?_
    omega
  · have := den_le (t := maxI (rs.map (topD L)) - minI (rs.map (topD L))) (b := (L : Int)) (by omega)
    omega
end K35
set_option Elab.async false
set_option linter.all false
set_option maxRecDepth 100000
set_option maxHeartbeats 2000000
namespace K35
open PySem PySem.Spec PyProof.Rows L2 Tk Pl
theorem red_neg (y : Rat) : red (-y) = .tup [.int (0 - y.num), .int (y.den : Int)] := by simp [red]
theorem red_zero : red 0 = .tup [.int 0, .int 1] := rfl
theorem den_add {x y : Rat} (hx : x.den ≤ 12) (hy : y.den ≤ 12) : (x + y).den ≤ 144 := by
  have px := den_pos x
  have py := den_pos y
  have h := den_le (t := x.num * (y.den : Int) + y.num * (x.den : Int)) (b := (x.den : Int) * (y.den : Int)) (Int.mul_pos px py)
  rw [add_red] at h
  have h2 : x.den * y.den ≤ 12 * 12 := Nat.mul_le_mul hx hy
  have h3 : ((x.den * y.den : Nat) : Int) = (x.den : Int) * (y.den : Int) := Int.natCast_mul _ _
  omega
theorem inner_ok (a0 a1 a2 a3 a4 a5 a10 a11 a12 a13 a14 : Option SV) (x : Rat) (hx : x.den ≤ 12) : ∀ (ys : List Rat) (D0 : Rat) (a8 a9 : Option SV), (∀ y ∈ ys, y.den ≤ 12) → D0.den ≤ 144 →
    ∃ D' a8' a9', loopS (tgN 8) b_law_1 (ys.map red) [a0, a1, a2, a3, a4, a5, some (.dat (red D0)), some (.dat (red x)), a8, a9, a10, a11, a12, a13, a14] = some (.nx [a0, a1, a2, a3, a4, a5, some (.dat (red D')), some (.dat (red x)), a8', a9', a10, a11, a12, a13, a14]) ∧
      D'.den ≤ 144 ∧ D0 ≤ D' ∧ (∀ y ∈ ys, x - y ≤ D') ∧ (D' = D0 ∨ ∃ y ∈ ys, D' = x - y)
  | [], D0, a8, a9, _, hD => ⟨D0, a8, a9, rfl, hD, by grind, fun y hy => absurd hy List.not_mem_nil, .inl rfl⟩
  | y :: r, D0, a8, a9, hy, hD => by
    have y12 := hy y List.mem_cons_self
    have e1 := plus_ok x (-y) (by omega) (by simpa using (by omega : (y.den : Int) < 2 ^ 60))
    have dd : (x + -y).den ≤ 144 := den_add hx (by simpa using y12)
    have e2 := less_ok D0 (x + -y) (by omega) (by omega)
    rw [red_neg] at e1
    have xy : x + -y = x - y := by grind
    rw [xy] at e1 e2 dd
    by_cases c : D0 < x - y
    · obtain ⟨D', a8', a9', e, h1, h2, h3, h4⟩ := inner_ok a0 a1 a2 a3 a4 a5 a10 a11 a12 a13 a14 x hx r (x - y) (some (.dat (red y))) (some (.dat (red (x - y)))) (fun z hz => hy z (List.mem_cons_of_mem _ hz)) dd
      refine ⟨D', a8', a9', ?_, h1, by grind, fun z hz => ?_, ?_⟩
      · rw [List.map_cons, ev_loopS_cons]
        have i0 : ixD (red y) 0 = some (.int y.num) := by simp [red]
        have i1 : ixD (red y) 1 = some (.int y.den) := by simp [red]
        have c' : decide (D0 < x - y) = true := decide_eq_true c
        simp only [c'] at e2
        simp [b_law_1, i0, i1, -Int.zero_sub, e1, e2]
        exact e
      · rcases List.mem_cons.mp hz with rfl | hz
        · exact h2
        · exact h3 z hz
      · rcases h4 with h4 | ⟨z, hz, h4⟩
        · exact .inr ⟨y, List.mem_cons_self, h4⟩
        · exact .inr ⟨z, List.mem_cons_of_mem _ hz, h4⟩
    · obtain ⟨D', a8', a9', e, h1, h2, h3, h4⟩ := inner_ok a0 a1 a2 a3 a4 a5 a10 a11 a12 a13 a14 x hx r D0 (some (.dat (red y))) (some (.dat (red (x - y)))) (fun z hz => hy z (List.mem_cons_of_mem _ hz)) hD
      refine ⟨D', a8', a9', ?_, h1, h2, fun z hz => ?_, ?_⟩
      · rw [List.map_cons, ev_loopS_cons]
        have i0 : ixD (red y) 0 = some (.int y.num) := by simp [red]
        have i1 : ixD (red y) 1 = some (.int y.den) := by simp [red]
        have c' : decide (D0 < x - y) = false := decide_eq_false c
        simp only [c'] at e2
        simp [b_law_1, i0, i1, -Int.zero_sub, e1, e2]
        exact e
      · rcases List.mem_cons.mp hz with rfl | hz
        · grind
        · exact h3 z hz
      · rcases h4 with h4 | ⟨z, hz, h4⟩
        · exact .inl h4
        · exact .inr ⟨z, List.mem_cons_of_mem _ hz, h4⟩
theorem outer_ok (a0 a1 a2 a3 a4 a10 a11 a12 a13 a14 : Option SV) (rs : List Rat) (hr : ∀ r ∈ rs, r.den ≤ 12) : ∀ (xs : List Rat) (D0 : Rat) (a7 a8 a9 : Option SV), (∀ x ∈ xs, x ∈ rs) → D0.den ≤ 144 →
    ∃ D' a7' a8' a9', loopS (tgN 7) (sFor (dItems (dVar 5)) (tgN 8) b_law_1) (xs.map red) [a0, a1, a2, a3, a4, some (.dat (.lst (rs.map red))), some (.dat (red D0)), a7, a8, a9, a10, a11, a12, a13, a14] = some (.nx [a0, a1, a2, a3, a4, some (.dat (.lst (rs.map red))), some (.dat (red D')), a7', a8', a9', a10, a11, a12, a13, a14]) ∧
      D'.den ≤ 144 ∧ D0 ≤ D' ∧ (∀ x ∈ xs, ∀ y ∈ rs, x - y ≤ D') ∧ (D' = D0 ∨ ∃ x ∈ xs, ∃ y ∈ rs, D' = x - y)
  | [], D0, a7, a8, a9, _, hD => ⟨D0, a7, a8, a9, rfl, hD, by grind, fun y hy => absurd hy List.not_mem_nil, .inl rfl⟩
  | x :: r, D0, a7, a8, a9, hx, hD => by
    obtain ⟨D1, b8, b9, e1, g1, g2, g3, g4⟩ := inner_ok a0 a1 a2 a3 a4 (some (.dat (.lst (rs.map red)))) a10 a11 a12 a13 a14 x (hr x (hx x List.mem_cons_self)) rs D0 a8 a9 hr hD
    obtain ⟨D', a7', a8', a9', e, h1, h2, h3, h4⟩ := outer_ok a0 a1 a2 a3 a4 a10 a11 a12 a13 a14 rs hr r D1 (some (.dat (red x))) b8 b9 (fun z hz => hx z (List.mem_cons_of_mem _ hz)) g1
    refine ⟨D', a7', a8', a9', ?_, h1, by grind, fun z hz y hy => ?_, ?_⟩
    · rw [List.map_cons, ev_loopS_cons]
      simp [e1]
      exact e
    · rcases List.mem_cons.mp hz with rfl | hz
      · have := g3 y hy
        grind
      · exact h3 z hz y hy
    · rcases h4 with h4 | ⟨z, hz, y, hy, h4⟩
      · rcases g4 with g4 | ⟨y, hy, g4⟩
        · exact .inl (h4.trans g4)
        · exact .inr ⟨x, List.mem_cons_self, y, hy, h4.trans g4⟩
      · exact .inr ⟨z, List.mem_cons_of_mem _ hz, y, hy, h4⟩
theorem due_spread {D' : Rat} {rs : List Rat} (l0 : 0 < rs.length) (h0 : 0 ≤ D') (h3 : ∀ x ∈ rs, ∀ y ∈ rs, x - y ≤ D') (h4 : D' = 0 ∨ ∃ x ∈ rs, ∃ y ∈ rs, D' = x - y) : IsSpread D' rs := by
  obtain ⟨x, hx, y, hy, e⟩ : ∃ x ∈ rs, ∃ y ∈ rs, D' = x - y := by
    rcases h4 with h4 | h4
    · exact ⟨rs[0], List.getElem_mem l0, rs[0], List.getElem_mem l0, by grind⟩
    · exact h4
  refine ⟨x, hx, y, hy, e, fun r hr => ?_⟩
  have h5 := h3 r hr y hy
  have h6 := h3 x hx r hr
  constructor <;> grind
/-- the drawn numbers -/
theorem draw_ok (n : Nat) (hn : n ≤ 12) (a0 a1 a3 a4 a5 a6 a7 a8 a9 a10 a11 a13 a14 : Option SV) (a b c : Int) : ∃ l a' b' c', l.length = n ∧ (∀ v ∈ l, okV 1000000 v) ∧
    loopC [12] (tgN 12) yesT (froze (dFn F__law_value (dCons (dVar 2) dNil))) (rangeL 0 n) [] [a0, a1, bx a b c, a3, a4, a5, a6, a7, a8, a9, a10, a11, none, a13, a14] = some (.ok (.own (.lst l)) [a0, a1, bx a' b' c', a3, a4, a5, a6, a7, a8, a9, a10, a11, none, a13, a14]) := by
  obtain ⟨l, ρ', ⟨a', b', c', rfl, h1, h2⟩, e⟩ := loopC_inv (vs := [12]) (tg := tgN 12) (ft := yesT) (fe := froze (dFn F__law_value (dCons (dVar 2) dNil)))
    (fun ds acc ρ => ∃ a' b' c', ρ = [a0, a1, bx a' b' c', a3, a4, a5, a6, a7, a8, a9, a10, a11, none, a13, a14] ∧ ds.length + acc.length = n ∧ ∀ v ∈ acc, okV 1000000 v) (by
      rintro d r acc ρ ⟨a', b', c', rfl, h1, h2⟩
      obtain ⟨v, a2, b2, c2, hv, ev⟩ := value_ok a' b' c'
      simp only [List.length_cons] at h1
      refine ⟨_, _, rfl, .inl ⟨rfl, v, [a0, a1, bx a2 b2 c2, a3, a4, a5, a6, a7, a8, a9, a10, a11, some (.dat d), a13, a14], ?_, by omega, a2, b2, c2, rfl, by rw [List.length_append, List.length_singleton]; omega, ?_⟩⟩
      · unfold bx at ev ⊢
        simp [ev]
      · intro w hw
        rcases List.mem_append.mp hw with hw | hw
        · exact h2 w hw
        · rw [List.mem_singleton.mp hw]; exact hv) (rangeL 0 n) [] _ ⟨a, b, c, rfl, by rw [rangeL_length]; rfl, fun v hv => by cases hv⟩
  exact ⟨l, a', b', c', by simpa using h1, h2, e⟩
theorem okV_num_ {b : Nat} {v : D} (h : okV b v) : v.num = true ∧ v.pure = true ∧ v.deep ≤ 1 := by
  rcases h with ⟨z, rfl, hz⟩ | ⟨t, q, rfl, q0, q1, ht⟩
  · exact ⟨rfl, rfl, by simp [D.deep]⟩
  · exact ⟨rfl, rfl, by simp [D.deep, D.deeps]⟩
theorem okVs_num {b : Nat} : ∀ {l : List D}, (∀ v ∈ l, okV b v) → D.nums_ l = true ∧ D.pures l = true ∧ D.deeps l ≤ 1
  | [], _ => ⟨rfl, rfl, by simp [D.deeps]⟩
  | v :: r, h => by
    obtain ⟨a1, a2, a3⟩ := okV_num_ (h v List.mem_cons_self)
    obtain ⟨b1, b2, b3⟩ := okVs_num (l := r) fun x hx => h x (List.mem_cons_of_mem _ hx)
    exact ⟨by simp [D.nums_, a1, b1], by simp [D.pures, a2, b2], by simp [D.deeps]; omega⟩
theorem eq_red (r s : Rat) : dEq (red r) (red s) = some (decide (r = s)) := by
  refine dEq_num rfl rfl rfl rfl (by simp [red, D.deep, D.deeps]) (by simp [red, D.deep, D.deeps]) rfl ?_
  rw [decide_eq_true_eq]
  exact ⟨fun h => by rw [h], red_inj⟩
theorem eq_nums {b : Nat} {l : List D} (h : ∀ v ∈ l, okV b v) : dEq (.lst l) (.lst l) = some true := by
  obtain ⟨a1, a2, a3⟩ := okVs_num h
  exact dEq_same a1 a2 (by simp [D.deep]; omega) rfl
theorem repr_red {r : Rat} (h : r.num.natAbs < 10 ^ 30) (h' : r.den < 10 ^ 30) : hRepr (red r) = some (.str (red r).py.shown) := hRepr_ok rfl (fine_red h h' (by decide) (by decide)) (by decide) (by decide)
end K35
set_option Elab.async false
set_option linter.all false
set_option maxRecDepth 100000
set_option maxHeartbeats 4000000
namespace K35
open PySem PySem.Spec PyProof.Rows L2 Tk Pl
theorem turn_ok (a0 a1 a3 a4 a5 a6 a7 a8 a9 a10 a11 a12 a13 a14 : Option SV) (a b c : Int) : ∃ a' b' c' v4 v5 v6 v7 v8 v9 v10 v11 v12 v13 v14,
    b_law_2 [a0, a1, bx a b c, a3, a4, a5, a6, a7, a8, a9, a10, a11, a12, a13, a14] = some (.nx [a0, a1, bx a' b' c', a3, v4, v5, v6, v7, v8, v9, v10, v11, v12, v13, v14]) := by
  obtain ⟨n, a1', b1, c1, n0, n1, e1⟩ := take_ok a b c 12 (by decide) (by decide)
  obtain ⟨m, rfl⟩ : ∃ m : Nat, n = (m : Int) := ⟨n.toNat, by omega⟩
  obtain ⟨l, a2, b2, c2, hl, hv, e2⟩ := draw_ok (1 + m) (by omega) a0 a1 a3 a4 a5 a6 a7 a8 a9 a10 a11 a13 a14 a1' b1 c1
  have hv' : ∀ v ∈ l, okV 1000000000 v := fun v h => okV_mono (hv v h) (by decide)
  -- the pairs
  have e3 : ∀ (x2 x3 x5 x6 x7 x8 x9 x10 x11 x12 x14 : Option SV), loopC [13] (tgN 13) yesT (froze (dFn F__law_pair (dCons (froze (dVar 13)) dNil))) l [] [a0, a1, x2, x3, some (.dat (.lst l)), x5, x6, x7, x8, x9, x10, x11, x12, none, x14] = some (.ok (.own (.lst ((l.map valOf).map red))) [a0, a1, x2, x3, some (.dat (.lst l)), x5, x6, x7, x8, x9, x10, x11, x12, none, x14]) := by
    intro x2 x3 x5 x6 x7 x8 x9 x10 x11 x12 x14
    have := loopC_map (i := 13) (fe := froze (dFn F__law_pair (dCons (froze (dVar 13)) dNil))) (fun d => red (valOf d)) (ρ := [a0, a1, x2, x3, some (.dat (.lst l)), x5, x6, x7, x8, x9, x10, x11, x12, none, x14]) (fun x => rfl) l [] (by
      intro d hd
      have := pair_ok (hv d hd)
      simp [this]) (by simp; omega)
    rw [this]
    simp [Function.comp_def]
  have hr : ∀ r ∈ l.map valOf, r.den ≤ 12 := by
    intro r hr
    obtain ⟨v, hv1, rfl⟩ := List.mem_map.mp hr
    have := okV_den (hv v hv1)
    omega
  have hrn : ∀ r ∈ l.map valOf, r.num.natAbs ≤ 1000000 := by
    intro r hr
    obtain ⟨v, hv1, rfl⟩ := List.mem_map.mp hr
    exact okV_num (hv v hv1)
  obtain ⟨rs, hrs⟩ : ∃ rs, rs = l.map valOf := ⟨_, rfl⟩
  have rl : rs.length = l.length := by rw [hrs, List.length_map]
  rw [← hrs] at e3 hr hrn
  obtain ⟨D', d7, d8, d9, e4, g1, g2, g3, g4⟩ := outer_ok a0 a1 (bx a2 b2 c2) a3 (some (.dat (.lst l))) a10 a11 none none a14 rs hr rs 0 a7 a8 a9 (fun x h => h) (by decide)
  have sp := due_spread (by omega) g2 g3 g4
  -- the spreads
  obtain ⟨V1, s1, t1, u1, w1⟩ := spread_ok l (.lst l) (.inl rfl) (by omega) (by omega) hv'
  rw [← hrs] at t1
  obtain rfl : V1 = D' := t1.one sp fun _ => Iff.rfl
  obtain ⟨l', a3', b3, c3, hl', hm, e5⟩ := mixed_ok a2 b2 c2 l (by omega)
  obtain ⟨V2, s2, t2, u2, w2⟩ := spread_ok l' (.tup l') (.inr rfl) (by omega) (by omega) fun v h => hv' v ((hm v).mp h)
  obtain rfl : V2 = V1 := t2.one sp fun r => by
    rw [hrs]
    simp only [List.mem_map]
    exact ⟨fun ⟨v, h, e⟩ => ⟨v, (hm v).mp h, e⟩, fun ⟨v, h, e⟩ => ⟨v, (hm v).mpr h, e⟩⟩
  obtain ⟨q, a4', b4, c4, q0, q1, e6⟩ := take_ok a3' b3 c3 99 (by decide) (by decide)
  -- all moved by as much
  obtain ⟨cc, hcc⟩ : ∃ cc : Rat, cc = ((q - 49 : Int) : Rat) := ⟨_, rfl⟩
  have den1 : cc.den = 1 := by rw [hcc]; rfl
  have num1 : cc.num = q - 49 := by rw [hcc]; rfl
  have redc : red cc = .tup [.int (q - 49), .int 1] := by unfold red; rw [den1, num1]; rfl
  have e7 : ∀ (x2 x3 x4 x6 x7 x8 x9 x10 x12 x13 : Option SV), loopC [14] (tgN 14) yesT (froze (dFn F__law_plus (dCons (froze (dVar 14)) (dCons (dTup (dCons (froze (dVar 11)) (dCons (retE (.dat (.int 1))) dNil))) dNil)))) (rs.map red) [] [a0, a1, x2, x3, x4, some (.dat (.lst (rs.map red))), x6, x7, x8, x9, x10, some (.dat (.int (q - 49))), x12, x13, none] = some (.ok (.own (.lst (rs.map fun r => red (r + cc)))) [a0, a1, x2, x3, x4, some (.dat (.lst (rs.map red))), x6, x7, x8, x9, x10, some (.dat (.int (q - 49))), x12, x13, none]) := by
    intro x2 x3 x4 x6 x7 x8 x9 x10 x12 x13
    have := loopC_map (i := 14) (fe := froze (dFn F__law_plus (dCons (froze (dVar 14)) (dCons (dTup (dCons (froze (dVar 11)) (dCons (retE (.dat (.int 1))) dNil))) dNil)))) (fun d => red (valOf d + cc)) (ρ := [a0, a1, x2, x3, x4, some (.dat (.lst (rs.map red))), x6, x7, x8, x9, x10, some (.dat (.int (q - 49))), x12, x13, none]) (fun x => rfl) (rs.map red) [] (by
      intro d hd
      obtain ⟨r, hr1, rfl⟩ := List.mem_map.mp hd
      have r12 := hr r hr1
      have p := plus_ok r cc (by omega) (by rw [den1]; decide)
      rw [redc] at p
      simp [p, red_val]) (by simp; omega)
    rw [this]
    simp [Function.comp_def, red_val]
  have ok3 : ∀ v ∈ rs.map (fun r => red (r + cc)), okV 1000000000 v := by
    intro v h
    obtain ⟨r, hr1, rfl⟩ := List.mem_map.mp h
    have r12 := hr r hr1
    have rn := hrn r hr1
    have rp := den_pos r
    have ad := add_red r cc
    rw [den1, num1] at ad
    refine .inr ⟨_, _, rfl, den_pos _, ?_, ?_⟩
    · rw [← ad]
      have := den_le (t := r.num * ((1 : Nat) : Int) + (q - 49) * (r.den : Int)) (b := (r.den : Int) * ((1 : Nat) : Int)) (by omega)
      omega
    · rw [← ad]
      refine Nat.le_trans (num_le (by omega)) ?_
      have h1 : ((q - 49) * (r.den : Int)).natAbs ≤ 49 * 12 := by
        rw [Int.natAbs_mul]
        exact Nat.mul_le_mul (by omega) (by omega)
      omega
  obtain ⟨V3, s3, t3, u3, w3⟩ := spread_ok (rs.map fun r => red (r + cc)) (.lst (rs.map fun r => red (r + cc))) (.inl rfl) (by rw [List.length_map]; omega) (by rw [List.length_map]; omega) ok3
  obtain rfl : V3 = V2 := t3.one (sp.shift cc) fun r => by simp [red_val]
  -- one value three times
  obtain ⟨r0, rest, hrr⟩ : ∃ r0 rest, rs = r0 :: rest := by
    cases rs with
    | nil => simp at rl; omega
    | cons r0 rest => exact ⟨r0, rest, rfl⟩
  have i0 : ixD (.lst (rs.map red)) 0 = some (red r0) := by rw [hrr]; simp
  have hr0 : r0 ∈ rs := by rw [hrr]; exact List.mem_cons_self
  have r012 := hr r0 hr0
  have r0n := hrn r0 hr0
  obtain ⟨V4, s4, t4, u4, w4⟩ := spread_ok [red r0, red r0, red r0] (.lst [red r0, red r0, red r0]) (.inl rfl) (by simp) (by simp) (fun v h => by
    have : v = red r0 := by simpa using h
    rw [this]
    exact .inr ⟨_, _, rfl, den_pos _, by omega, by omega⟩)
  obtain rfl : V4 = 0 := t4.one ⟨r0, by simp [red_val], r0, by simp [red_val], by grind, fun r h => by
    have : r = r0 := by simpa [red_val] using h
    rw [this]
    constructor <;> grind⟩ fun _ => Iff.rfl
  have rep := repr_red u3 w3
  have eqs := eq_red V3 V3
  have eq0 := eq_red 0 0
  have eqn := eq_nums hv
  rw [red_zero] at s4 eq0
  have e4' : ∀ x : D, loopS (tgN 7) (sFor (dItems (dVar 5)) (tgN 8) b_law_1) (rs.map red) [a0, a1, some (.own (.lst [.int a2, .int b2, .int c2])), a3, some (.dat (.lst l)), some (.dat (.lst (rs.map red))), some (.dat (.tup [.int 0, .int 1])), a7, a8, a9, a10, a11, none, none, a14] = some (.nx [a0, a1, some (.own (.lst [.int a2, .int b2, .int c2])), a3, some (.dat (.lst l)), some (.dat (.lst (rs.map red))), some (.dat (red V3)), d7, d8, d9, a10, a11, none, none, a14]) := fun _ => e4
  unfold bx at e1 e2 e5 e6 ⊢
  refine ⟨a4', b4, c4, some (.dat (.lst l)), some (.dat (.lst (rs.map red))), some (.dat (red V3)), d7, d8, d9, some (.dat (.lst l)), some (.dat (.int (q - 49))), none, none, none, ?_⟩
  have nn : (1 + (m : Int)).natAbs ≤ 100000 := by omega
  have nt : (1 + (m : Int)).toNat = 1 + m := by omega
  simp [b_law_2, e1, nn, nt, e2, e3, e4' .non, s1, rep, s2, e5, e6, eqs, eqn, e7, s3, i0, s4, eq0]
end K35
set_option Elab.async false
set_option linter.all false
set_option maxRecDepth 100000
set_option maxHeartbeats 4000000
namespace K35
open PySem PySem.Spec PyProof.Rows L2 Tk Pl
/-- fifteen slots, the script, a box -/
def At15 (s k : Option SV) (ρ : Sl) : Prop := ∃ a b c v3 v4 v5 v6 v7 v8 v9 v10 v11 v12 v13 v14, ρ = [s, k, bx a b c, v3, v4, v5, v6, v7, v8, v9, v10, v11, v12, v13, v14]
theorem turns_ok (s k : Option SV) (ρ : Sl) (h : At15 s k ρ) : ∃ ρ', At15 s k ρ' ∧ loopS (tgN 3) b_law_2 (rangeL 0 8) ρ = some (.nx ρ') :=
  loopS_inv (fun _ ρ => At15 s k ρ) (by
    rintro d r ρ ⟨a, b, c, v3, v4, v5, v6, v7, v8, v9, v10, v11, v12, v13, v14, rfl⟩
    obtain ⟨a', b', c', w4, w5, w6, w7, w8, w9, w10, w11, w12, w13, w14, e⟩ := turn_ok s k (some (.dat d)) v4 v5 v6 v7 v8 v9 v10 v11 v12 v13 v14 a b c
    exact ⟨_, _, rfl, .inl e, a', b', c', _, w4, w5, w6, w7, w8, w9, w10, w11, w12, w13, w14, rfl⟩) _ _ h
theorem spread_is (l : List D) (V : Rat) (l0 : 0 < l.length) (l1 : l.length ≤ 12) (h : ∀ v ∈ l, okV 1000000000 v) (s : IsSpread V (l.map valOf)) : F_spread [some (.dat (.lst l))] = some (.ok (.dat (red V)) [none]) := by
  obtain ⟨V', e, s', _⟩ := spread_ok l (.lst l) (.inl rfl) l0 l1 h
  rw [e, s'.one s fun _ => Iff.rfl]
theorem law_true (ns : List Int) (hl : ns.length ≤ 63) : ∃ ρ, g_law (some (.dat (.wri (ns.map D.int))) :: List.replicate (N_law.length - 1) none) = some (.rt (.dat (.bl true)) ρ) := by
  obtain ⟨s, hs⟩ : ∃ s : Option SV, s = some (.dat (.wri (ns.map D.int))) := ⟨_, rfl⟩
  obtain ⟨n, hn, hn1⟩ : ∃ n : Nat, (if (if (ns.length : Int) < 4 then (ns.length : Int) else 4) > 1 then (if (ns.length : Int) < 4 then (ns.length : Int) else 4) else 1) = (n : Int) ∧ n ≤ 4 := by
    split <;> split <;> first
      | exact ⟨ns.length, rfl, by omega⟩
      | exact ⟨4, rfl, by omega⟩
      | exact ⟨1, rfl, by omega⟩
  obtain ⟨ρ', ⟨ds', k, o2, v3, v4, v5, v6, v7, v8, v9, v10, v11, v12, v13, v14, rfl, _⟩, e⟩ := loopS_inv (tg := tgN 1) (body := b_law_3)
    (fun ds ρ => ∃ (j : Nat) (k o2 v3 v4 v5 v6 v7 v8 v9 v10 v11 v12 v13 v14 : Option SV), ρ = [s, k, o2, v3, v4, v5, v6, v7, v8, v9, v10, v11, v12, v13, v14] ∧ ds = (rangeL 0 n).drop j) (by
      rintro d r ρ ⟨j, k, o2, v3, v4, v5, v6, v7, v8, v9, v10, v11, v12, v13, v14, rfl, hd⟩
      have jn : j < n := by
        have := congrArg List.length hd
        rw [List.length_drop, rangeL_length] at this
        simp only [List.length_cons] at this
        omega
      have hd' : d = .int (j : Int) ∧ r = (rangeL 0 n).drop (j + 1) := by
        rw [List.drop_eq_getElem_cons (by rw [rangeL_length]; exact jn)] at hd
        injection hd with h1 h2
        refine ⟨?_, h2⟩
        rw [h1]
        have := rangeL_at (lo := 0) jn
        rw [List.getElem?_eq_getElem (by rw [rangeL_length]; exact jn)] at this
        rw [Option.some.inj this]
        simp
      obtain ⟨rfl, rfl⟩ := hd'
      obtain ⟨a, b, c, eb⟩ := box_ok ns j (by omega)
      obtain ⟨ρ2, ⟨a', b', c', w3, w4, w5, w6, w7, w8, w9, w10, w11, w12, w13, w14, rfl⟩, et⟩ := turns_ok s (some (.dat (.int (j : Int)))) [s, some (.dat (.int (j : Int))), bx a b c, v3, v4, v5, v6, v7, v8, v9, v10, v11, v12, v13, v14] ⟨a, b, c, _, _, _, _, _, _, _, _, _, _, _, _, rfl⟩
      refine ⟨_, [s, some (.dat (.int (j : Int))), bx a' b' c', w3, w4, w5, w6, w7, w8, w9, w10, w11, w12, w13, w14], rfl, .inl ?_, j + 1, _, _, _, _, _, _, _, _, _, _, _, _, _, _, rfl, rfl⟩
      unfold bx at et ⊢
      rw [hs] at et ⊢
      simp [b_law_3, eb, et]) (rangeL 0 n) [s, none, none, none, none, none, none, none, none, none, none, none, none, none, none] ⟨0, _, _, _, _, _, _, _, _, _, _, _, _, _, _, rfl, rfl⟩
  refine ⟨[s, k, o2, v3, v4, v5, v6, v7, v8, v9, v10, v11, v12, v13, v14], ?_⟩
  have c1 : F_spread [some (.dat (.lst [.int 7]))] = some (.ok (.dat (.tup [.int 0, .int 1])) [none]) :=
    spread_is [.int 7] 0 (by decide) (by decide) (fun v h => by rw [List.mem_singleton.mp h]; exact .inl ⟨7, rfl, by decide⟩) ⟨7, by simp [valOf], 7, by simp [valOf], by grind, fun r h => by
      have : r = 7 := by simpa [valOf] using h
      rw [this]
      constructor <;> grind⟩
  have c2 : F_spread [some (.dat (.lst [.int 3, .tup [.int 1, .int 2]]))] = some (.ok (.dat (.tup [.int 5, .int 2])) [none]) :=
    spread_is [.int 3, .tup [.int 1, .int 2]] (Rat.divInt 5 2) (by decide) (by decide) (fun v h => by
      rcases List.mem_cons.mp h with rfl | h
      · exact .inl ⟨3, rfl, by decide⟩
      · rw [List.mem_singleton.mp h]; exact .inr ⟨1, 2, rfl, by decide, by decide, by decide⟩) ⟨3, by simp [valOf], Rat.divInt 1 2, by simp [valOf], by decide +kernel, fun r h => by
      have : r = 3 ∨ r = Rat.divInt 1 2 := by simpa [valOf] using h
      rcases this with rfl | rfl <;> decide +kernel⟩
  have c3 : F_spread [some (.dat (.lst [.tup [.int 2, .int 4], .tup [.int (-3), .int 6]]))] = some (.ok (.dat (.tup [.int 1, .int 1])) [none]) :=
    spread_is [.tup [.int 2, .int 4], .tup [.int (-3), .int 6]] 1 (by decide) (by decide) (fun v h => by
      rcases List.mem_cons.mp h with rfl | h
      · exact .inr ⟨2, 4, rfl, by decide, by decide, by decide⟩
      · rw [List.mem_singleton.mp h]; exact .inr ⟨-3, 6, rfl, by decide, by decide, by decide⟩) ⟨Rat.divInt 2 4, by simp [valOf], Rat.divInt (-3) 6, by simp [valOf], by decide +kernel, fun r h => by
      have : r = Rat.divInt 2 4 ∨ r = Rat.divInt (-3) 6 := by simpa [valOf] using h
      rcases this with rfl | rfl <;> decide +kernel⟩
  have eq : ∀ i j : Int, dEq (.tup [.int i, .int j]) (.tup [.int i, .int j]) = some true := fun i j => dEq_same rfl rfl (by simp [D.deep, D.deeps]) rfl
  have nn : n ≤ 100000 := by omega
  rw [hs] at e ⊢
  have rep : List.replicate (N_law.length - 1) (none : Option SV) = [none, none, none, none, none, none, none, none, none, none, none, none, none, none] := rfl
  rw [rep]
  have hn' : (if 1 < (if (ns.length : Int) < 4 then (ns.length : Int) else 4) then (if (ns.length : Int) < 4 then (ns.length : Int) else 4) else 1) = (n : Int) := hn
  simp [g_law, hn', nn, e, c1, c2, c3, eq]
end K35
set_option Elab.async false
set_option linter.all false
set_option maxRecDepth 100000
set_option maxHeartbeats 16000000
namespace K35
open PySem PySem.Spec PyProof.Rows L2 Tk Pl
theorem all_mk {l : PySem.W.OpenLaw} {w : World} {K : PySem.W.Frag} {h : Heap} {mg : Str → Option Value} {fa : Addr} (X : K.In h) (G : h.Ns mainGlobals mg) (hfa : mg "law" = some (.ref fa))
    {f_is_pair : Addr} {od_is_pair an_is_pair : Option Addr} {sl_is_pair : Array (Option Value)} {oc_is_pair kV_is_pair dc_is_pair pm_is_pair cd_is_pair ct_is_pair : Value}
    {f_common_multiple : Addr} {od_common_multiple an_common_multiple : Option Addr} {sl_common_multiple : Array (Option Value)} {oc_common_multiple kV_common_multiple dc_common_multiple pm_common_multiple cd_common_multiple ct_common_multiple : Value}
    {f_lowest : Addr} {od_lowest an_lowest : Option Addr} {sl_lowest : Array (Option Value)} {oc_lowest kV_lowest dc_lowest pm_lowest cd_lowest ct_lowest : Value}
    {f_as_pair : Addr} {od_as_pair an_as_pair : Option Addr} {sl_as_pair : Array (Option Value)} {oc_as_pair kV_as_pair dc_as_pair pm_as_pair cd_as_pair ct_as_pair : Value}
    {f_even_tops : Addr} {od_even_tops an_even_tops : Option Addr} {sl_even_tops : Array (Option Value)} {oc_even_tops kV_even_tops dc_even_tops pm_even_tops cd_even_tops ct_even_tops : Value}
    {f_spread : Addr} {od_spread an_spread : Option Addr} {sl_spread : Array (Option Value)} {oc_spread kV_spread dc_spread pm_spread cd_spread ct_spread : Value}
    {f__law_box : Addr} {od__law_box an__law_box : Option Addr} {sl__law_box : Array (Option Value)} {oc__law_box kV__law_box dc__law_box pm__law_box cd__law_box ct__law_box : Value}
    {f__law_take : Addr} {od__law_take an__law_take : Option Addr} {sl__law_take : Array (Option Value)} {oc__law_take kV__law_take dc__law_take pm__law_take cd__law_take ct__law_take : Value}
    {f__law_pick : Addr} {od__law_pick an__law_pick : Option Addr} {sl__law_pick : Array (Option Value)} {oc__law_pick kV__law_pick dc__law_pick pm__law_pick cd__law_pick ct__law_pick : Value}
    {f__law_mixed : Addr} {od__law_mixed an__law_mixed : Option Addr} {sl__law_mixed : Array (Option Value)} {oc__law_mixed kV__law_mixed dc__law_mixed pm__law_mixed cd__law_mixed ct__law_mixed : Value}
    {f__law_ratio : Addr} {od__law_ratio an__law_ratio : Option Addr} {sl__law_ratio : Array (Option Value)} {oc__law_ratio kV__law_ratio dc__law_ratio pm__law_ratio cd__law_ratio ct__law_ratio : Value}
    {f__law_plus : Addr} {od__law_plus an__law_plus : Option Addr} {sl__law_plus : Array (Option Value)} {oc__law_plus kV__law_plus dc__law_plus pm__law_plus cd__law_plus ct__law_plus : Value}
    {f__law_value : Addr} {od__law_value an__law_value : Option Addr} {sl__law_value : Array (Option Value)} {oc__law_value kV__law_value dc__law_value pm__law_value cd__law_value ct__law_value : Value}
    {f__law_pair : Addr} {od__law_pair an__law_pair : Option Addr} {sl__law_pair : Array (Option Value)} {oc__law_pair kV__law_pair dc__law_pair pm__law_pair cd__law_pair ct__law_pair : Value}
    {f__law_less : Addr} {od__law_less an__law_less : Option Addr} {sl__law_less : Array (Option Value)} {oc__law_less kV__law_less dc__law_less pm__law_less cd__law_less ct__law_less : Value}
    {f_law : Addr} {od_law an_law : Option Addr} {sl_law : Array (Option Value)} {oc_law kV_law dc_law pm_law cd_law ct_law : Value}
    (zisinstance : PySem.W.nsIn K mainGlobals "isinstance" = some none)
    (ztuple : PySem.W.nsIn K mainGlobals "tuple" = some none)
    (zlen : PySem.W.nsIn K mainGlobals "len" = some none)
    (zlcm : PySem.W.nsIn K mainGlobals "lcm" = some (some (.builtin "math.lcm")))
    (zgcd : PySem.W.nsIn K mainGlobals "gcd" = some (some (.builtin "math.gcd")))
    (zmax : PySem.W.nsIn K mainGlobals "max" = some none)
    (zmin : PySem.W.nsIn K mainGlobals "min" = some none)
    (zabs : PySem.W.nsIn K mainGlobals "abs" = some none)
    (zint : PySem.W.nsIn K mainGlobals "int" = some none)
    (zlist : PySem.W.nsIn K mainGlobals "list" = some none)
    (zrange : PySem.W.nsIn K mainGlobals "range" = some none)
    (zrepr : PySem.W.nsIn K mainGlobals "repr" = some none)
    (a_is_pair : PySem.W.nsIn K mainGlobals "is_pair" = some (some (.ref f_is_pair)))
    (l_is_pair : K.lookup f_is_pair = some ⟨oc_is_pair, od_is_pair, .func (PySem.W.fnOf "is_pair" "is_pair" (defArgs s_is_pair) (defBody s_is_pair) (defScope s_is_pair) .none kV_is_pair dc_is_pair pm_is_pair an_is_pair cd_is_pair ct_is_pair), sl_is_pair⟩)
    (c_is_pair : PySem.W.codeIn K cd_is_pair "is_pair" = true)
    (k_is_pair : PySem.W.keepIn K (.ref f_is_pair) = true)
    (a_common_multiple : PySem.W.nsIn K mainGlobals "common_multiple" = some (some (.ref f_common_multiple)))
    (l_common_multiple : K.lookup f_common_multiple = some ⟨oc_common_multiple, od_common_multiple, .func (PySem.W.fnOf "common_multiple" "common_multiple" (defArgs s_common_multiple) (defBody s_common_multiple) (defScope s_common_multiple) .none kV_common_multiple dc_common_multiple pm_common_multiple an_common_multiple cd_common_multiple ct_common_multiple), sl_common_multiple⟩)
    (c_common_multiple : PySem.W.codeIn K cd_common_multiple "common_multiple" = true)
    (k_common_multiple : PySem.W.keepIn K (.ref f_common_multiple) = true)
    (a_lowest : PySem.W.nsIn K mainGlobals "lowest" = some (some (.ref f_lowest)))
    (l_lowest : K.lookup f_lowest = some ⟨oc_lowest, od_lowest, .func (PySem.W.fnOf "lowest" "lowest" (defArgs s_lowest) (defBody s_lowest) (defScope s_lowest) .none kV_lowest dc_lowest pm_lowest an_lowest cd_lowest ct_lowest), sl_lowest⟩)
    (c_lowest : PySem.W.codeIn K cd_lowest "lowest" = true)
    (k_lowest : PySem.W.keepIn K (.ref f_lowest) = true)
    (a_as_pair : PySem.W.nsIn K mainGlobals "as_pair" = some (some (.ref f_as_pair)))
    (l_as_pair : K.lookup f_as_pair = some ⟨oc_as_pair, od_as_pair, .func (PySem.W.fnOf "as_pair" "as_pair" (defArgs s_as_pair) (defBody s_as_pair) (defScope s_as_pair) .none kV_as_pair dc_as_pair pm_as_pair an_as_pair cd_as_pair ct_as_pair), sl_as_pair⟩)
    (c_as_pair : PySem.W.codeIn K cd_as_pair "as_pair" = true)
    (k_as_pair : PySem.W.keepIn K (.ref f_as_pair) = true)
    (a_even_tops : PySem.W.nsIn K mainGlobals "even_tops" = some (some (.ref f_even_tops)))
    (l_even_tops : K.lookup f_even_tops = some ⟨oc_even_tops, od_even_tops, .func (PySem.W.fnOf "even_tops" "even_tops" (defArgs s_even_tops) (defBody s_even_tops) (defScope s_even_tops) .none kV_even_tops dc_even_tops pm_even_tops an_even_tops cd_even_tops ct_even_tops), sl_even_tops⟩)
    (c_even_tops : PySem.W.codeIn K cd_even_tops "even_tops" = true)
    (k_even_tops : PySem.W.keepIn K (.ref f_even_tops) = true)
    (a_spread : PySem.W.nsIn K mainGlobals "spread" = some (some (.ref f_spread)))
    (l_spread : K.lookup f_spread = some ⟨oc_spread, od_spread, .func (PySem.W.fnOf "spread" "spread" (defArgs s_spread) (defBody s_spread) (defScope s_spread) .none kV_spread dc_spread pm_spread an_spread cd_spread ct_spread), sl_spread⟩)
    (c_spread : PySem.W.codeIn K cd_spread "spread" = true)
    (k_spread : PySem.W.keepIn K (.ref f_spread) = true)
    (a__law_box : PySem.W.nsIn K mainGlobals "_law_box" = some (some (.ref f__law_box)))
    (l__law_box : K.lookup f__law_box = some ⟨oc__law_box, od__law_box, .func (PySem.W.fnOf "_law_box" "_law_box" (defArgs s__law_box) (defBody s__law_box) (defScope s__law_box) .none kV__law_box dc__law_box pm__law_box an__law_box cd__law_box ct__law_box), sl__law_box⟩)
    (c__law_box : PySem.W.codeIn K cd__law_box "_law_box" = true)
    (k__law_box : PySem.W.keepIn K (.ref f__law_box) = true)
    (a__law_take : PySem.W.nsIn K mainGlobals "_law_take" = some (some (.ref f__law_take)))
    (l__law_take : K.lookup f__law_take = some ⟨oc__law_take, od__law_take, .func (PySem.W.fnOf "_law_take" "_law_take" (defArgs s__law_take) (defBody s__law_take) (defScope s__law_take) .none kV__law_take dc__law_take pm__law_take an__law_take cd__law_take ct__law_take), sl__law_take⟩)
    (c__law_take : PySem.W.codeIn K cd__law_take "_law_take" = true)
    (k__law_take : PySem.W.keepIn K (.ref f__law_take) = true)
    (a__law_pick : PySem.W.nsIn K mainGlobals "_law_pick" = some (some (.ref f__law_pick)))
    (l__law_pick : K.lookup f__law_pick = some ⟨oc__law_pick, od__law_pick, .func (PySem.W.fnOf "_law_pick" "_law_pick" (defArgs s__law_pick) (defBody s__law_pick) (defScope s__law_pick) .none kV__law_pick dc__law_pick pm__law_pick an__law_pick cd__law_pick ct__law_pick), sl__law_pick⟩)
    (c__law_pick : PySem.W.codeIn K cd__law_pick "_law_pick" = true)
    (k__law_pick : PySem.W.keepIn K (.ref f__law_pick) = true)
    (a__law_mixed : PySem.W.nsIn K mainGlobals "_law_mixed" = some (some (.ref f__law_mixed)))
    (l__law_mixed : K.lookup f__law_mixed = some ⟨oc__law_mixed, od__law_mixed, .func (PySem.W.fnOf "_law_mixed" "_law_mixed" (defArgs s__law_mixed) (defBody s__law_mixed) (defScope s__law_mixed) .none kV__law_mixed dc__law_mixed pm__law_mixed an__law_mixed cd__law_mixed ct__law_mixed), sl__law_mixed⟩)
    (c__law_mixed : PySem.W.codeIn K cd__law_mixed "_law_mixed" = true)
    (k__law_mixed : PySem.W.keepIn K (.ref f__law_mixed) = true)
    (a__law_ratio : PySem.W.nsIn K mainGlobals "_law_ratio" = some (some (.ref f__law_ratio)))
    (l__law_ratio : K.lookup f__law_ratio = some ⟨oc__law_ratio, od__law_ratio, .func (PySem.W.fnOf "_law_ratio" "_law_ratio" (defArgs s__law_ratio) (defBody s__law_ratio) (defScope s__law_ratio) .none kV__law_ratio dc__law_ratio pm__law_ratio an__law_ratio cd__law_ratio ct__law_ratio), sl__law_ratio⟩)
    (c__law_ratio : PySem.W.codeIn K cd__law_ratio "_law_ratio" = true)
    (k__law_ratio : PySem.W.keepIn K (.ref f__law_ratio) = true)
    (a__law_plus : PySem.W.nsIn K mainGlobals "_law_plus" = some (some (.ref f__law_plus)))
    (l__law_plus : K.lookup f__law_plus = some ⟨oc__law_plus, od__law_plus, .func (PySem.W.fnOf "_law_plus" "_law_plus" (defArgs s__law_plus) (defBody s__law_plus) (defScope s__law_plus) .none kV__law_plus dc__law_plus pm__law_plus an__law_plus cd__law_plus ct__law_plus), sl__law_plus⟩)
    (c__law_plus : PySem.W.codeIn K cd__law_plus "_law_plus" = true)
    (k__law_plus : PySem.W.keepIn K (.ref f__law_plus) = true)
    (a__law_value : PySem.W.nsIn K mainGlobals "_law_value" = some (some (.ref f__law_value)))
    (l__law_value : K.lookup f__law_value = some ⟨oc__law_value, od__law_value, .func (PySem.W.fnOf "_law_value" "_law_value" (defArgs s__law_value) (defBody s__law_value) (defScope s__law_value) .none kV__law_value dc__law_value pm__law_value an__law_value cd__law_value ct__law_value), sl__law_value⟩)
    (c__law_value : PySem.W.codeIn K cd__law_value "_law_value" = true)
    (k__law_value : PySem.W.keepIn K (.ref f__law_value) = true)
    (a__law_pair : PySem.W.nsIn K mainGlobals "_law_pair" = some (some (.ref f__law_pair)))
    (l__law_pair : K.lookup f__law_pair = some ⟨oc__law_pair, od__law_pair, .func (PySem.W.fnOf "_law_pair" "_law_pair" (defArgs s__law_pair) (defBody s__law_pair) (defScope s__law_pair) .none kV__law_pair dc__law_pair pm__law_pair an__law_pair cd__law_pair ct__law_pair), sl__law_pair⟩)
    (c__law_pair : PySem.W.codeIn K cd__law_pair "_law_pair" = true)
    (k__law_pair : PySem.W.keepIn K (.ref f__law_pair) = true)
    (a__law_less : PySem.W.nsIn K mainGlobals "_law_less" = some (some (.ref f__law_less)))
    (l__law_less : K.lookup f__law_less = some ⟨oc__law_less, od__law_less, .func (PySem.W.fnOf "_law_less" "_law_less" (defArgs s__law_less) (defBody s__law_less) (defScope s__law_less) .none kV__law_less dc__law_less pm__law_less an__law_less cd__law_less ct__law_less), sl__law_less⟩)
    (c__law_less : PySem.W.codeIn K cd__law_less "_law_less" = true)
    (k__law_less : PySem.W.keepIn K (.ref f__law_less) = true)
    (a_law : PySem.W.nsIn K mainGlobals "law" = some (some (.ref f_law)))
    (l_law : K.lookup f_law = some ⟨oc_law, od_law, .func (PySem.W.fnOf "law" "law" (defArgs s_law) (defBody s_law) (defScope s_law) .none kV_law dc_law pm_law an_law cd_law ct_law), sl_law⟩)
    (c_law : PySem.W.codeIn K cd_law "law" = true)
    (k_law : PySem.W.keepIn K (.ref f_law) = true)
    : ∃ fd : FuncData, (∀ (s : Shared) (v : Value), BindsTo s fd ⟨[v], []⟩ [("_law_script", v)]) ∧ ∀ base : Heap, K.In base → base.Ns mainGlobals mg → FnG l.prog w K mg base CX0 4 fa fd ["_law_script"] (spLaw K) := by
  have e := hfa.symm.trans (PySem.W.mg_of X G a_law)
  cases e
  refine ⟨PySem.W.fnOf "law" "law" (defArgs s_law) (defBody s_law) (defScope s_law) .none kV_law dc_law pm_law an_law cd_law ct_law, fun s v => .of_eq rfl, fun base _ _ => ?_⟩
  let C : Cl := ⟨fun _ => 0, fun _ => []⟩
  have m_isinstance := PySem.W.mg_none_of X G zisinstance
  have m_tuple := PySem.W.mg_none_of X G ztuple
  have m_len := PySem.W.mg_none_of X G zlen
  have m_lcm := PySem.W.mg_of X G zlcm
  have m_gcd := PySem.W.mg_of X G zgcd
  have m_max := PySem.W.mg_none_of X G zmax
  have m_min := PySem.W.mg_none_of X G zmin
  have m_abs := PySem.W.mg_none_of X G zabs
  have m_int := PySem.W.mg_none_of X G zint
  have m_list := PySem.W.mg_none_of X G zlist
  have m_range := PySem.W.mg_none_of X G zrange
  have m_repr := PySem.W.mg_none_of X G zrepr
  have h_is_pair := ok_is_pair (P := l.prog) (w := w) (base := base) (C := C) (fun_mk (st := s_is_pair) l_is_pair c_is_pair k_is_pair) (PySem.W.mg_of X G a_is_pair)  m_isinstance m_tuple m_len
  have h_common_multiple := ok_common_multiple (P := l.prog) (w := w) (base := base) (C := C) (fun_mk (st := s_common_multiple) l_common_multiple c_common_multiple k_common_multiple) (PySem.W.mg_of X G a_common_multiple)  m_lcm
  have h_lowest := ok_lowest (P := l.prog) (w := w) (base := base) (C := C) (fun_mk (st := s_lowest) l_lowest c_lowest k_lowest) (PySem.W.mg_of X G a_lowest)  m_gcd
  have h_as_pair := ok_as_pair (P := l.prog) (w := w) (base := base) (C := C) (fun_mk (st := s_as_pair) l_as_pair c_as_pair k_as_pair) (PySem.W.mg_of X G a_as_pair) h_is_pair h_lowest 
  have h_even_tops := ok_even_tops (P := l.prog) (w := w) (base := base) (C := C) (fun_mk (st := s_even_tops) l_even_tops c_even_tops k_even_tops) (PySem.W.mg_of X G a_even_tops) h_common_multiple 
  have h_spread := ok_spread (P := l.prog) (w := w) (base := base) (C := C) (fun_mk (st := s_spread) l_spread c_spread k_spread) (PySem.W.mg_of X G a_spread) h_even_tops h_as_pair h_lowest m_max m_min
  have h__law_box := ok__law_box (P := l.prog) (w := w) (base := base) (C := C) (fun_mk (st := s__law_box) l__law_box c__law_box k__law_box) (PySem.W.mg_of X G a__law_box)  m_len m_abs m_int
  have h__law_take := ok__law_take (P := l.prog) (w := w) (base := base) (C := C) (fun_mk (st := s__law_take) l__law_take c__law_take k__law_take) (PySem.W.mg_of X G a__law_take)  m_int
  have h__law_pick := ok__law_pick (P := l.prog) (w := w) (base := base) (C := C) (fun_mk (st := s__law_pick) l__law_pick c__law_pick k__law_pick) (PySem.W.mg_of X G a__law_pick) h__law_take m_len
  have h__law_mixed := ok__law_mixed (P := l.prog) (w := w) (base := base) (C := C) (fun_mk (st := s__law_mixed) l__law_mixed c__law_mixed k__law_mixed) (PySem.W.mg_of X G a__law_mixed) h__law_take m_list m_range m_len
  have h__law_ratio := ok__law_ratio (P := l.prog) (w := w) (base := base) (C := C) (fun_mk (st := s__law_ratio) l__law_ratio c__law_ratio k__law_ratio) (PySem.W.mg_of X G a__law_ratio)  m_abs m_int
  have h__law_plus := ok__law_plus (P := l.prog) (w := w) (base := base) (C := C) (fun_mk (st := s__law_plus) l__law_plus c__law_plus k__law_plus) (PySem.W.mg_of X G a__law_plus) h__law_ratio 
  have h__law_value := ok__law_value (P := l.prog) (w := w) (base := base) (C := C) (fun_mk (st := s__law_value) l__law_value c__law_value k__law_value) (PySem.W.mg_of X G a__law_value) h__law_pick h__law_take 
  have h__law_pair := ok__law_pair (P := l.prog) (w := w) (base := base) (C := C) (fun_mk (st := s__law_pair) l__law_pair c__law_pair k__law_pair) (PySem.W.mg_of X G a__law_pair) h__law_ratio m_isinstance m_int
  have h__law_less := ok__law_less (P := l.prog) (w := w) (base := base) (C := C) (fun_mk (st := s__law_less) l__law_less c__law_less k__law_less) (PySem.W.mg_of X G a__law_less)  
  exact ok_law (C := C) (fun_mk (st := s_law) l_law c_law k_law) h__law_box h__law_take h__law_value h__law_pair h__law_plus h__law_less h_spread h__law_mixed m_range m_max m_min m_len m_list m_repr m_tuple law_true
end K35
set_option Elab.async false
open PySem PySem.W PyProof.Rows
set_option maxRecDepth 100000 in
set_option maxHeartbeats 0 in
theorem PySem.Challenge.cw_talkmeans_k35_spreads_holds : PySem.Challenge.rw_talkmeans_k35_spreads.Holds := by
  w_on; o_law; k_head; (case hw => w_witness2)
  k_fill
  refine Tk.walkG (l := PySem.Challenge.rw_talkmeans_k35_spreads) (k := 4) (x := "_law_script") (sp := Pl.spLaw) rfl rfl ⟨rfl, by decide, by decide⟩ (fun w h Y => PySem.W.kIn_of Y) ?F (fun K H a ns hl _ hS => ⟨a, ns, rfl, hS, hl, fun _ => rfl⟩)
  case F =>
    intro w mg fa h KX G hmg
    refine' K35.all_mk KX G hmg ?zisinstance ?ztuple ?zlen ?zlcm ?zgcd ?zmax ?zmin ?zabs ?zint ?zlist ?zrange ?zrepr ?a_is_pair ?l_is_pair ?c_is_pair ?k_is_pair ?a_common_multiple ?l_common_multiple ?c_common_multiple ?k_common_multiple ?a_lowest ?l_lowest ?c_lowest ?k_lowest ?a_as_pair ?l_as_pair ?c_as_pair ?k_as_pair ?a_even_tops ?l_even_tops ?c_even_tops ?k_even_tops ?a_spread ?l_spread ?c_spread ?k_spread ?a__law_box ?l__law_box ?c__law_box ?k__law_box ?a__law_take ?l__law_take ?c__law_take ?k__law_take ?a__law_pick ?l__law_pick ?c__law_pick ?k__law_pick ?a__law_mixed ?l__law_mixed ?c__law_mixed ?k__law_mixed ?a__law_ratio ?l__law_ratio ?c__law_ratio ?k__law_ratio ?a__law_plus ?l__law_plus ?c__law_plus ?k__law_plus ?a__law_value ?l__law_value ?c__law_value ?k__law_value ?a__law_pair ?l__law_pair ?c__law_pair ?k__law_pair ?a__law_less ?l__law_less ?c__law_less ?k__law_less ?a_law ?l_law ?c_law ?k_law
    (case zisinstance => k_is)
    (case ztuple => k_is)
    (case zlen => k_is)
    (case zlcm => k_is)
    (case zgcd => k_is)
    (case zmax => k_is)
    (case zmin => k_is)
    (case zabs => k_is)
    (case zint => k_is)
    (case zlist => k_is)
    (case zrange => k_is)
    (case zrepr => k_is)
    (case a_is_pair => k_is)
    (case l_is_pair => k_is)
    (case c_is_pair => k_is)
    (case k_is_pair => k_is)
    (case a_common_multiple => k_is)
    (case l_common_multiple => k_is)
    (case c_common_multiple => k_is)
    (case k_common_multiple => k_is)
    (case a_lowest => k_is)
    (case l_lowest => k_is)
    (case c_lowest => k_is)
    (case k_lowest => k_is)
    (case a_as_pair => k_is)
    (case l_as_pair => k_is)
    (case c_as_pair => k_is)
    (case k_as_pair => k_is)
    (case a_even_tops => k_is)
    (case l_even_tops => k_is)
    (case c_even_tops => k_is)
    (case k_even_tops => k_is)
    (case a_spread => k_is)
    (case l_spread => k_is)
    (case c_spread => k_is)
    (case k_spread => k_is)
    (case a__law_box => k_is)
    (case l__law_box => k_is)
    (case c__law_box => k_is)
    (case k__law_box => k_is)
    (case a__law_take => k_is)
    (case l__law_take => k_is)
    (case c__law_take => k_is)
    (case k__law_take => k_is)
    (case a__law_pick => k_is)
    (case l__law_pick => k_is)
    (case c__law_pick => k_is)
    (case k__law_pick => k_is)
    (case a__law_mixed => k_is)
    (case l__law_mixed => k_is)
    (case c__law_mixed => k_is)
    (case k__law_mixed => k_is)
    (case a__law_ratio => k_is)
    (case l__law_ratio => k_is)
    (case c__law_ratio => k_is)
    (case k__law_ratio => k_is)
    (case a__law_plus => k_is)
    (case l__law_plus => k_is)
    (case c__law_plus => k_is)
    (case k__law_plus => k_is)
    (case a__law_value => k_is)
    (case l__law_value => k_is)
    (case c__law_value => k_is)
    (case k__law_value => k_is)
    (case a__law_pair => k_is)
    (case l__law_pair => k_is)
    (case c__law_pair => k_is)
    (case k__law_pair => k_is)
    (case a__law_less => k_is)
    (case l__law_less => k_is)
    (case c__law_less => k_is)
    (case k__law_less => k_is)
    (case a_law => k_is)
    (case l_law => k_is)
    (case c_law => k_is)
    (case k_law => k_is)
