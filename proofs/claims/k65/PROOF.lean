import PyProof.Rows.All
import Wide.All
import OpenK.AllK
import Wide.FinOn
import HandS.ForMost
import HandS.Codes
import HandS.Walk
import HandS.DictComp
import HandS.ListItems
import HandS.Property
import HandS.Wide
import HandS.Style
import HandS.More
import HandS.Defaults
import HandS.MakeKwOnly
import HandS.IsInst
import HandS.OwnEq
import HandS.DeepEq
import HandS.RaiseMore
import HandS.ExcInit
import HandS.ExcIs
import HandS.WordsExc
import HandS.ExcOwn
import HandS.SetBool
import HandS.Strs
import HandS.TryOnly
import HandS.MakeKw
import HandS.SetFor
import PyProof.FactsLen
import PySem.Challenge.RW_dueclocks_k65_tickets_moment_by_moment
set_option Elab.async false
set_option linter.all false
set_option maxRecDepth 100000
set_option maxHeartbeats 4000000
namespace DK
open PySem PySem.Spec PyProof.Rows L2

/-- a def that is only run where no repr is under way -/
structure FnG (P : Program) (w : World) (K : PySem.W.Frag) (mg : Str → Option Value) (b0 : Heap) (k : Nat) (f : Addr)
    (fd : FuncData) (ps : List Str) (sp : Sp) : Prop where
  size : ∀ vs H Q E, sp vs H Q E → vs.length = ps.length
  go : ∀ (B : Around) (stk : List Env) (s : Shared) (H : Hp) (ar : Args) (us : List Value) (vs : List V) (Q : VK) (E : XK),
    B.guards = some [] → Room k B → Env0 P w K mg b0 B stk s H → BindsTo s fd ar (ps.zip us) → Vals vs us → sp vs H Q E →
      codeAny (model P w) B (.call (.ref f) ar) (CR CX0 stk P w H s Q E) s

section
variable {P : Program} {w : World} {K : PySem.W.Frag} {mg : Str → Option Value} {b0 : Heap}

theorem okG {x qual : Str} {st : Stmt} {f : Addr} {fd : FuncData} {N ps : List Str} {k : Nat} {sp : Sp}
    (F : Fun K x qual st f fd) (S : FnScope N ps (defScope st)) (size : ∀ vs H Q E, sp vs H Q E → vs.length = ps.length)
    (body : ∀ (cdv : Value) (B : Around) (stk : List Env) (s : Shared) (H : Hp) (vs : List V) (Q : VK) (E : XK),
      B.guards = some [] → Room k (B.deeper (envOfC qual (defScope st) s.heap.objs.size f cdv)) → sp vs H Q E →
      ∃ t, PSs (cxOf CX0 P w K mg b0 N qual (defScope st) f cdv B stk s H E).nox (defBody st) t ∧
        t { nx := fun _ J => Q .non J, rt := Q } (start N vs) H) : FnG P w K mg b0 (k + 1) f fd ps sp := by
  obtain ⟨oc, od, kV, dc, pm, an, cv, ct, osl, rfl, hf, hcode⟩ := F.ex
  refine ⟨size, fun B stk s H ar us vs Q E hgd hr env hbi hv hs => ?_⟩
  have hlen := size _ _ _ _ hs
  have inK : K.In s.heap := env.mod.kin.keeps fun c u g => (env.bs c u g).1
  have noL : s.heap.NoLimit := env.mod.nolimit.keeps fun c u g => (env.bs c u g).1
  have kinds : ∀ z ∈ ps.zip us, (defScope st).names.lookup z.1 = some .local ∨
      ((defScope st).names.lookup z.1 = some .cell ∧
        ((cellsFrom (s.heap.objs.size + 1) (defScope st).names []).lookup z.1).isSome = true) := by
    rintro ⟨n, v⟩ hz
    rcases S.par n (List.of_mem_zip hz).1 with g | g
    · exact Or.inl g
    · exact Or.inr ⟨g, PySem.W.cellsFrom_some _ _ _ (Or.inl g)⟩
  refine codeAny_call_function hr.depth (inK _ _ hf) rfl S.co S.gen rfl (PySem.W.codeRec_of inK hcode) (hbi _ _ _ _ ?_)
  refine wpAny_newFunctionEnv_cells S.kind kinds fun en hen s2 inc => ?_
  subst hen
  refine ⟨noL.keeps inc.toInCall.keep, codeAny_func ?_⟩
  obtain ⟨t, ht0, hq⟩ := body cv B stk s H vs Q E hgd (hr.deeper _) hs
  have ht := ht0.nox
  have I : Inv (cxOf CX0 P w K mg b0 N qual (defScope st) f cv B stk s H E) [] (start N vs) H s2 := inv_start S hr.hd env hlen hv inc
  refine wpAny_mono (ht.run [] s2 (start N vs) H _ I hq) (fun fl s3 h3 => ?_) fun e s3 h3 => h3
  have close : ∀ {τ : L2.St} {J : Hp} {v : V} {u : Value}, Inv (cxOf CX0 P w K mg b0 N qual (defScope st) f cv B stk s H E) [] τ J s3 →
      RelV v u → Q v J → CE stk P w H s Q u s3 := fun {τ J v u} I3 rv q => ⟨v, J, I3.os, I3.bare, I3.base, I3.hok, rv, q⟩
  cases fl with
  | next =>
    obtain ⟨τ, J, I3, q⟩ := h3
    exact close (v := V.non) (u := Value.none) I3 rfl q
  | ret u =>
    obtain ⟨v, τ, J, I3, rv, q⟩ := h3
    exact close I3 rv q
  | cont =>
    obtain ⟨_, _, _, q⟩ := h3
    exact q.elim
  | brk =>
    obtain ⟨_, _, _, q⟩ := h3
    exact q.elim
end

section
variable {X : Cx}
/-- f(e, ..) of such a def -/
theorem pe_callG {k : Nat} {f : Addr} {fd : FuncData} {ps : List Str} {sp : Sp} {x : Str} {p pos : Pos} {e : Expr} {es : List Expr} {t : TA}
    (F : FnG X.prog X.w X.K X.mg X.base k f fd ps sp) (hgd : X.A.guards = some []) (hr : Room k X.A) (hg : Gl X x)
    (hm : X.mg x = some (.ref f)) (hk : PySem.W.keepIn X.K (.ref f) = true) (hb : Binds X.K fd ps []) (ha : PA X (e :: es) t)
    (hdb : (x == ("__debug__" : Str)) = false := by decide)
    (he : starEach (e :: es) X.env = (false, eval e X.env) :: starEach es X.env := by rfl)
    (hpl : (backTo pos (starEach es X.env)).any (·.1) = false := by rfl) :
    PE X (.Call (.Name x p) (e :: es) [] pos) (tCall sp [] E0 t) := by
  refine ⟨fun pins s σ H Q I h => ?_⟩
  refine wpAny_Call_Name_kw (ld_glob I hg hm ?_ hdb)
  refine PySem.W.callWith_K (h₀ := X.base) I.ok.mod.kin hk (thn (ha.run pos pins s σ H _ I h) fun us s1 hh => ?_) he hpl
  obtain ⟨vs, J, I1, r, q⟩ := hh
  refine ⟨I1.kIn, ?_⟩
  rw [List.append_nil] at q
  have hl : us.length = ps.length := r.length.symm.trans (F.size _ _ _ _ q)
  have bi := hb s1 us I1.kIn (by rw [List.append_nil]; exact hl)
  rw [List.append_nil] at bi
  refine wpAny_call (codeAny_mono (F.go X.A X.stack s1 J ⟨us, []⟩ us vs Q E0 hgd hr I1.env0 bi r q) fun res s2 hq => ?_)
  cases res with
  | error er => exact False.elim hq
  | ok fl =>
    cases fl with
    | ret u => exact I1.after hq
    | next => exact False.elim hq
    | brk => exact False.elim hq
    | cont => exact False.elim hq

/-- repr(x), x a list or a tuple of data -/
def rRepr (K : PySem.W.Frag) : List V → Hp → VK → Prop := fun xs H Q => ∃ (a : Addr) (d : PyData), xs = [.ref a] ∧ Dp K H (.ref a) d ∧
  d.showable = true ∧ d.hasDict = false ∧ d.depth ≤ 60 ∧ d.shown.length ≤ sizeLine ∧ Q (.str d.shown) H
theorem call_repr (hgd : X.A.guards = some []) (hu : X.A.units + 64 < cLine) : CallR X (.builtin "repr") (rRepr X.K) := by
  intro pins s σ H xs us Q I r h
  obtain ⟨a, d, rfl, hd, hs, hn, hdp, hz, q⟩ := h
  cases r with
  | cons r1 r2 =>
    cases r2
    rename_i u
    obtain rfl : u = Value.ref a := r1
    obtain ⟨as, rd⟩ := Dp.reads I d _ _ hd (show RelV (V.ref a) (Value.ref a) from rfl)
    refine repr_of_reads' rd hs (PyData.noDict_hsm hn) hgd (by omega) (fun _ _ e => e) (fun h' u tk hk => ?_) hz
    exact ⟨.str d.shown, H, I.kept hk, ⟨u, rfl⟩, q⟩
end

/-- what is hidden of the heap behind the top: the script alone, where it is not the module's own -/
structure Veil (P : Program) (w : World) (K : PySem.W.Frag) (h : Heap) (a : Addr) (ns : List Int) (H : Hp) : Prop where
  only : Only H
  at_ : SqL K H a (ns.map V.int)
  ok : HOk P w H h
  one : ∀ c, H c ≠ none → c = a
  out : H a ≠ none → K.lookup a = none

theorem veil_of {P : Program} {w : World} {K : PySem.W.Frag} {h : Heap} {a : Addr} {us : List Value} {ns : List Int} (inK : K.In h)
    (ha : h.get? a = some { cls := .type "list", data := .seq us.toArray }) (hi : IntsAre us ns) (hz : ns.length ≤ sizeLine) :
    ∃ H, Veil P w K h a ns H := by
  have rv := vals_ints hi
  cases hk : K.lookup a with
  | some o =>
    have e := (inK a o hk).symm.trans ha
    cases e
    refine ⟨fun _ => none, fun _ => Or.inl rfl, Or.inr ⟨_, us.toArray, _, hk, rfl, rfl, rfl, ?_, ?_⟩, fun c u z => ?_, fun c z => absurd rfl z, fun z => absurd rfl z⟩
    · rw [List.size_toArray, hi.length]
      exact hz
    · simpa using rv
    · exact nomatch (show (none : Option HO) = some u from z)
  | none =>
    let O : Obj := { cls := .type "list", data := .seq us.toArray }
    let H : Hp := fun c => if c = a then some (.frz O (.lst (ns.map V.int))) else none
    have hA : H a = some (.frz O (.lst (ns.map V.int))) := if_pos rfl
    have hN : ∀ c, c ≠ a → H c = none := fun c g => if_neg g
    refine ⟨H, fun c => ?_, Or.inl (Or.inr ⟨O, hA⟩), fun c u z => ?_, fun c z => ?_, fun _ => hk⟩
    · by_cases g : c = a
      · subst g
        exact Or.inr ⟨_, _, hA⟩
      · exact Or.inl (hN c g)
    · by_cases g : c = a
      · subst g
        have z2 := hA.symm.trans z
        cases z2
        refine ⟨ha, ?_, us, _, rv, ha⟩
        rw [List.length_map]
        exact hz
      · exact nomatch (hN c g).symm.trans z
    · by_cases g : c = a
      · exact g
      · exact absurd (hN c g) z

theorem lawG {P : Program} {w : World} {K : PySem.W.Frag} {mg mb : Str → Option Value} {k : Nat} {fa a : Addr} {fd : FuncData} {x : Str} {sp : Sp} {s : Shared} {us : List Value} {ns : List Int}
    (inK : K.In s.heap) (hmg : s.heap.Ns mainGlobals mg) (hmb : s.heap.Ns builtinsNs mb) (hbo : ∀ y : Str, y ≠ "__name__" → mb y = bootBuiltins y)
    (noL : s.heap.NoLimit) (gen : s.gens = #[]) (ha : s.heap.get? a = some { cls := .type "list", data := .seq us.toArray })
    (hi : IntsAre us ns) (hz : ns.length ≤ sizeLine) (hr : Room k callerA)
    (F : ∀ b0 : Heap, K.In b0 → b0.Ns mainGlobals mg → FnG P w K mg b0 k fa fd [x] sp)
    (bind : ∀ (t : Shared) (u : Value), BindsTo t fd ⟨[u], []⟩ [(x, u)])
    (hsp : ∀ H : Hp, Only H → SqL K H a (ns.map V.int) → sp [.ref a] H (fun v _ => v = .bl true) E0) :
    codeAny (model P w) callerA (.call (.ref fa) ⟨[.ref a], []⟩)
      (fun r t => r = .ok (.ret (.bool true)) ∧ OldK s.heap t.heap ∧ t.os = s.os ∧ AllBare t.gens) s := by
  obtain ⟨H, W⟩ := veil_of (P := P) (w := w) inK ha hi hz
  have through : ∀ {c : Addr} {o : Obj}, s.heap.get? c = some o → H c = none → (hidT s.heap H).get? c = some o := fun g n => hidT_get g n
  have dicts : ∀ {c : Addr} {o : Obj} {es : Array DictEntry} {ep : Nat}, s.heap.get? c = some o → o.data = .dict es ep → H c = none := by
    intro c o es ep g d
    by_cases n : H c = none
    · exact n
    · have := W.one c n
      subst this
      rw [ha] at g
      cases g
      exact nomatch d
  have names : ∀ {c : Addr} {m : Str → Option Value}, s.heap.Ns c m → (hidT s.heap H).Ns c m := fun {c m} ⟨o, es, ep, g, d, r⟩ => ⟨o, es, ep, through g (dicts g d), d, r⟩
  have inB : K.In (hidT s.heap H) := by
    intro c o g
    refine through (inK c o g) ?_
    by_cases n : H c = none
    · exact n
    · have e := W.one c n
      subst e
      rw [W.out n] at g
      exact nomatch g
  have md : Mod K mg (hidT s.heap H) := ⟨inB, names hmg, ⟨mb, names hmb, hbo⟩, noL.elim fun mc q => ⟨mc, names q.1, q.2⟩⟩
  have nil : ∀ c : Addr, c ∉ ([] : List Addr) := fun c q => nomatch q
  have env : Env0 P w K mg (hidT s.heap H) callerA [] s H :=
    ⟨rfl, md, fun c o g => of_hidT g, Nat.le_of_eq (hidT_size _ _), trivial, fun c q => absurd q (nil c), W.ok, .of_eq gen⟩
  refine codeAny_mono ((F _ inB (names hmg)).go callerA [] s H ⟨[.ref a], []⟩ [.ref a] [.ref a] _ _ rfl hr env (bind s (.ref a)) (.cons rfl .nil) (hsp H W.only W.at_)) fun r t q => ?_
  rcases r with er | fl
  · exact False.elim q
  · rcases fl with _ | _ | _ | u
    iterate 3 exact False.elim q
    · obtain ⟨v, H', os, bare, un, ok2, rv, rfl⟩ := q
      obtain rfl : u = Value.bool true := rv
      refine ⟨rfl, OldK.of_keep fun c o g => ?_, os, bare⟩
      by_cases n : H c = none
      · exact un.keep c o g n (fun z => absurd z (nil c)) (nil c)
      · rcases W.only c with z | ⟨O, xs, z⟩
        · exact absurd z n
        · have e1 := (W.ok c _ z).1
          have e2 := (ok2 c _ (un.frzs c O _ z)).1
          rw [g] at e1
          cases e1
          exact e2
/-- the end of a law row -/
theorem walkG {l : PySem.W.OpenLaw} {n k : Nat} {q : Program} {loose : List Str} {XP : (Str → Option Value) → Heap → Prop} {YP : World → Heap → Prop} {d : DefRec} {K : Params → PySem.W.Frag} {sp : PySem.W.Frag → Sp} {x : Str}
    (hn : l.most = some n) (hn2 : n ≤ sizeLine) (hdf : d.params.defaults = []) (hr : Room k callerA)
    (hY : ∀ (w : World) (h : Heap), YP w h → (K w.params).In h)
    (F : ∀ (w : World) (mg : Str → Option Value) (fa : Addr) (h : Heap), (K w.params).In h → h.Ns mainGlobals mg → mg d.name = some (.ref fa) →
      ∃ fd : FuncData, (∀ (t : Shared) (u : Value), BindsTo t fd ⟨[u], []⟩ [(x, u)]) ∧
        ∀ b0 : Heap, (K w.params).In b0 → b0.Ns mainGlobals mg → FnG l.prog w (K w.params) mg b0 k fa fd [x] (sp (K w.params)))
    (hsp : ∀ (J : PySem.W.Frag) (H : Hp) (a : Addr) (ns : List Int), ns.length ≤ n → Only H → SqL J H a (ns.map V.int) → sp J [.ref a] H (fun v _ => v = .bl true) E0) :
    PySem.W.WalkO q loose XP YP l.row.toRowW d [] (fun f vs => PySem.call f vs) := by
  refine Att.attach_call hn hdf fun w s₀ s₁ mg mb fa o pm cd doc a vs ns G Y ho hd hcd hmg hobj hints hlen hg => ?_
  have inK := hY w _ Y
  obtain ⟨fd, bi, hF⟩ := F w mg fa _ inK G.T.g hmg
  exact lawG inK G.T.g G.T.b G.T.builtins G.T.nolimit hg hobj hints (Nat.le_trans hlen hn2) hr hF bi fun H hO hS => hsp _ H a ns hlen hO hS
def top (i : Nat) : Stmt := PySem.Challenge.pw_dueclocks_k65_tickets_moment_by_moment.main.body.getD i (.Pass ⟨0, 0, 0, 0⟩)
abbrev sWell : Stmt := top 39
abbrev sTake : Stmt := top 40
abbrev sNumber : Stmt := top 41
abbrev sPaces : Stmt := top 42
abbrev sMarks : Stmt := top 43
abbrev sFits : Stmt := top 48
abbrev sLaw : Stmt := top 49
abbrev sIsSpeed : Stmt := top 23
abbrev sChkSpeeds : Stmt := top 24
abbrev sChkChanges : Stmt := top 25
abbrev sInit : Stmt := inClass (top 27) 0
abbrev sWeek : Stmt := inClass (top 27) 1
abbrev sSpeeds : Stmt := inClass (top 27) 2
abbrev sChanges : Stmt := inClass (top 27) 3
abbrev sGet : Stmt := inClass (top 27) 4
abbrev sHas : Stmt := inClass (top 27) 6
abbrev sEq : Stmt := inClass (top 27) 10
abbrev sErr : Stmt := inClass (top 2) 0
abbrev sPace : Stmt := top 45
abbrev sNear : Stmt := top 44
abbrev sSpan : Stmt := top 17
abbrev sAmount : Stmt := top 16
abbrev sTally : Stmt := top 29
abbrev sWWork : Stmt := top 30
abbrev sWDue : Stmt := top 31
abbrev sWork : Stmt := top 32
abbrev sDue : Stmt := top 33
abbrev sWeeks : Stmt := top 15
abbrev sMoved : Stmt := inClass (top 27) 9
abbrev sOr : Stmt := inClass (top 27) 7
abbrev sAnd : Stmt := inClass (top 27) 8
abbrev sPairs : Stmt := top 26
abbrev sChanged : Stmt := top 20
abbrev sEnd : Stmt := top 47
abbrev sChkWeek : Stmt := top 14
abbrev sBehind : Stmt := top 18
abbrev sStageI : Stmt := inClass (top 36) 0
abbrev sTkI : Stmt := inClass (top 37) 0
abbrev sTkMoment : Stmt := inClass (top 37) 1
abbrev sTkLeft : Stmt := inClass (top 37) 2
abbrev sTkPaused : Stmt := inClass (top 37) 3
abbrev sTkGo : Stmt := inClass (top 37) 4
abbrev sTkPause : Stmt := inClass (top 37) 5
abbrev sTkResume : Stmt := inClass (top 37) 6
abbrev sTkSwitch : Stmt := inClass (top 37) 7
abbrev sTkEnlarge : Stmt := inClass (top 37) 8
abbrev sTkUndo : Stmt := inClass (top 37) 9
abbrev sTkLeftAt : Stmt := inClass (top 37) 10
abbrev sTkDone : Stmt := inClass (top 37) 11
abbrev sTkWait : Stmt := inClass (top 37) 12
abbrev sTkStory : Stmt := inClass (top 37) 13
abbrev sTkLen : Stmt := inClass (top 37) 14
abbrev sTkEq : Stmt := inClass (top 37) 15
abbrev sNotDone : Stmt := top 35
abbrev sCall : Stmt := top 46
/-! ### the well -/
def Fr (p : Addr) (H H' : Hp) : Prop := ∀ b o, H b = some o → b ≠ p → H' b = some o
theorem Fr.refl (p : Addr) (H : Hp) : Fr p H H := fun _ _ h _ => h
theorem Fr.trans {p : Addr} {H H1 H2 : Hp} (a : Fr p H H1) (b : Fr p H1 H2) : Fr p H H2 := fun c o h g => b c o (a c o h g) g
theorem Fr.of {p : Addr} {H H' : Hp} (a : Same H H') : Fr p H H' := fun c o h _ => a c o h
theorem Fr.at_ {p : Addr} {o : HO} {H : Hp} : Fr p H (upd H p o) := fun b u h g => by
  rw [upd_ne g]
  exact h
theorem Fr.new {p q : Addr} {o : HO} {H : Hp} (h : H q = none) : Fr p H (upd H q o) := fun b u e _ => by
  rw [upd_ne (ne_of_none e h)]
  exact e
theorem Fr.seq {K : PySem.W.Frag} {p a : Addr} {H H' : Hp} {xs : List V} (f : Fr p H H') (g : a ≠ p) (h : SqL K H a xs) : SqL K H' a xs := by
  rcases h with (h | ⟨o, h⟩) | h
  · exact .inl (.inl (f _ _ h g))
  · exact .inl (.inr ⟨o, f _ _ h g⟩)
  · exact .inr h
theorem same_new {H : Hp} {q : Addr} {o : HO} (h : H q = none) : Same H (upd H q o) := fun b u e => by
  rw [upd_ne (ne_of_none e h)]
  exact e
/-- a well at p, from which n or fewer draws were mixed -/
def Well (H : Hp) (p : Addr) (n : Nat) : Prop := ∃ a b c : Int, H p = some (.lst [.int a, .int b, .int c]) ∧ 0 ≤ b ∧ b < 2 ^ 62 ∧ 0 ≤ c ∧ c ≤ n
theorem Well.mono {H : Hp} {p : Addr} {n m : Nat} (h : Well H p n) (g : n ≤ m) : Well H p m := by
  obtain ⟨a, b, c, h1, h2, h3, h4, h5⟩ := h
  exact ⟨a, b, c, h1, h2, h3, h4, by omega⟩
theorem Well.same {H H' : Hp} {p : Addr} {n : Nat} (h : Well H p n) (g : Same H H') : Well H' p n := by
  obtain ⟨a, b, c, h1, h2⟩ := h
  exact ⟨a, b, c, g _ _ h1, h2⟩
theorem Well.new {H : Hp} {p q : Addr} {n : Nat} {o : HO} (h : Well H p n) (g : H q = none) : Well (upd H q o) p n := h.same (same_new g)
theorem Well.upd_ne {H : Hp} {p q : Addr} {n : Nat} {o : HO} (h : Well H p n) (g : p ≠ q) : Well (upd H q o) p n := by
  obtain ⟨a, b, c, h1, h2⟩ := h
  exact ⟨a, b, c, by rw [L2.upd_ne g]; exact h1, h2⟩
theorem Well.ne {H : Hp} {p q : Addr} {n : Nat} (h : Well H p n) (g : H q = none) : p ≠ q := by
  obtain ⟨a, b, c, h1, h2⟩ := h
  exact ne_of_none h1 g
def spTake : Sp := fun vs H Q _ => ∃ (p : Addr) (n : Nat) (m : Int), vs = [.ref p, .int m] ∧ Well H p n ∧ n ≤ 10 ^ 9 ∧ 0 < m ∧ m < 2 ^ 200 ∧
  ∀ (r : Int) (H' : Hp), 0 ≤ r → r < m → Fr p H H' → Well H' p (n + 1) → Q (.int r) H'
theorem spTake_ok {p : Addr} {n : Nat} {m : Int} {H : Hp} {Q : VK} {E : XK} (h : Well H p n) (hn : n ≤ 10 ^ 9) (h0 : 0 < m) (h1 : m < 2 ^ 200)
    (q : ∀ (r : Int) (H' : Hp), 0 ≤ r → r < m → Fr p H H' → Well H' p (n + 1) → Q (.int r) H') : spTake [.ref p, .int m] H Q E := ⟨p, n, m, rfl, h, hn, h0, h1, q⟩
/-- the built-in names are still the built-in ones -/
structure Blt (mg : Str → Option Value) : Prop where
  int : mg "int" = none
  len : mg "len" = none
  abs : mg "abs" = none
  max : mg "max" = none
  min : mg "min" = none
  range : mg "range" = none
  repr : mg "repr" = none
  list : mg "list" = none
theorem set0 (a b c v : V) : ([a, b, c] : List V).set 0 v = [v, b, c] := rfl
theorem set2 (a b c v : V) : ([a, b, c] : List V).set 2 v = [a, b, v] := rfl
section
variable {P : Program} {w : World} {K : PySem.W.Frag} {mg : Str → Option Value} {base : Heap}
theorem scTake : FnScope ["well", "many", "taken", "mixed"] ["well", "many"] (defScope sTake) := ⟨rfl, rfl, rfl, by decide +kernel, rfl, by decide +kernel, by decide +kernel⟩
theorem ok_take {f : Addr} {fd : FuncData} (F : Fun K "_law_take" "_law_take" sTake f fd) (T : Blt mg) : FnOk P w K mg base CX0 1 f fd ["well", "many"] spTake := by
  refine F.ok scTake (fun vs H Q E h => ?_) (fun cdv A outer s H vs Q E hr h => ?_)
  · obtain ⟨p, n, m, rfl, _⟩ := h
    rfl
  · obtain ⟨p, n, m, rfl, ⟨a, b, c, hp, b0, b1, c0, c1⟩, hn, m0, m1, k⟩ := h
    refine ⟨_, pss_cons (ps_if (pt_cmpR op_gt (pe_ix ix_list (pv 0) pe_int (fun _ _ => rfl)) pe_int (nomark _))
      (pss_cons (ps_set (i := 2) scTake.nd rfl (.inl rfl) (pe_op op_mod (pe_callTy call_int1 (by rfl) T.int (by decide +kernel) (pa_cons (pe_ix ix_list (pv 0) pe_int (fun _ _ => rfl)) pa_nil)) (pv 1)))
      (pss_cons (ps_asg (pe_op op_fdivW (pe_ix ix_list (pv 0) pe_int (fun _ _ => rfl)) (pv 1)) (pg_sub (pv 0) pe_int set_list))
      (pss_one (ps_ret (pv 2))))) pss_nil)
      (pss_cons (ps_asg (pe_op op_add (pe_ix ix_list (pv 0) pe_int (fun _ _ => rfl)) pe_int) (pg_sub (pv 0) pe_int set_list))
      (pss_cons (ps_set (i := 3) scTake.nd rfl (.inl rfl) (pe_op op_add (pe_op op_pow (pe_op op_add (pe_ix ix_list (pv 0) pe_int (fun _ _ => rfl)) (pe_op op_mul pe_int (pe_ix ix_list (pv 0) pe_int (fun _ _ => rfl)))) pe_int) (pe_op op_mul pe_int (pe_ix ix_list (pv 0) pe_int (fun _ _ => rfl)))))
      (pss_cons (ps_set (i := 3) scTake.nd rfl (.inl rfl) (pe_op op_add (pe_op op_mod (pe_callTy call_int1 (by rfl) T.int (by decide +kernel) (pa_cons (pv 3) pa_nil)) pe_int) (pe_op op_mul pe_int (pe_ix ix_list (pv 0) pe_int (fun _ _ => rfl)))))
      (pss_cons (ps_set (i := 3) scTake.nd rfl (.inl rfl) (pe_op op_mod (pe_callTy call_int1 (by rfl) T.int (by decide +kernel) (pa_cons (pe_op op_pow (pv 3) pe_int) pa_nil)) pe_int))
      (pss_one (ps_ret (pe_op op_mod (pe_callTy call_int1 (by rfl) T.int (by decide +kernel) (pa_cons (pe_op op_fdiv (pv 3) pe_int) pa_nil)) (pv 1)))))))), ?_⟩
    refine ⟨_, rfl, p, _, 0, _, rfl, rfl, SqL.of hp, atI_nat (j := 0) rfl, _, _, rfl, rfl, _, rfl, ite2 (fun hw => ?_) (fun hw => ?_)⟩
    · refine ⟨_, rfl, p, _, 0, _, rfl, rfl, SqL.of hp, atI_nat (j := 0) rfl, .inl ⟨_, rfl, _, rfl, a, m, rfl, rfl, m0, ?_⟩⟩
      refine ⟨_, rfl, p, _, 0, _, rfl, rfl, SqL.of hp, atI_nat (j := 0) rfl, _, rfl, a, m, rfl, rfl, wide_div (b := 200) m0 (by omega) (by decide) (by decide), ?_⟩
      refine ⟨_, rfl, p, _, 0, 0, rfl, rfl, hp, rfl, ?_⟩
      refine ⟨_, rfl, k _ _ (Int.emod_nonneg _ (by omega)) (Int.emod_lt_of_pos _ m0) Fr.at_ ⟨a / m, b, c, upd_same, b0, b1, c0, by omega⟩⟩
    · refine ⟨_, rfl, p, _, 2, _, rfl, rfl, SqL.of hp, atI_nat (j := 2) rfl, _, _, rfl, rfl, ?_⟩
      refine ⟨_, rfl, p, _, 2, 2, rfl, rfl, hp, rfl, ?_⟩
      rw [set2]
      generalize hH : upd H p (.lst [.int a, .int b, .int (c + 1)]) = H1
      have h1 : H1 p = some (.lst [.int a, .int b, .int (c + 1)]) := by rw [← hH]; exact upd_same
      have e1 : (0 : Int) ≤ 6700417 * (c + 1) := by omega
      refine ⟨_, rfl, p, _, 1, _, rfl, rfl, SqL.of h1, atI_nat (j := 1) rfl, _, rfl, p, _, 2, _, rfl, rfl, SqL.of h1, atI_nat (j := 2) rfl, _, _, rfl, rfl, .inl ⟨by decide, by decide⟩, _, _, rfl, rfl, _, _, rfl, rfl, ⟨by decide, by decide, by omega⟩,
        _, rfl, p, _, 2, _, rfl, rfl, SqL.of h1, atI_nat (j := 2) rfl, _, _, rfl, rfl, .inl ⟨by decide, by decide⟩, _, _, rfl, rfl, ?_⟩
      refine ⟨_, rfl, .inl ⟨_, rfl, _, _, rfl, rfl, (by show (0 : Int) < 2305843009213693951; decide), _, rfl, p, _, 2, _, rfl, rfl, SqL.of h1, atI_nat (j := 2) rfl, _, _, rfl, rfl, .inl ⟨by decide, by decide⟩, _, _, rfl, rfl, ?_⟩⟩
      generalize hx : ((b + 6700417 * (c + 1)) ^ (3 : Int).toNat + 97 * (c + 1)) % 2305843009213693951 = x
      have x0 : 0 ≤ x := by rw [← hx]; exact Int.emod_nonneg _ (by decide)
      have x1 : x < 2305843009213693951 := by rw [← hx]; exact Int.emod_lt_of_pos _ (by decide)
      refine ⟨_, rfl, _, _, rfl, rfl, ⟨by decide, by decide, by omega⟩, .inl ⟨_, rfl, _, _, rfl, rfl, (by show (0 : Int) < 618970019642690137449562111; decide), ?_⟩⟩
      refine ⟨_, rfl, _, _, rfl, rfl, ⟨by decide, by decide⟩, .inl ⟨_, rfl, _, rfl, _, _, rfl, rfl, m0, ?_⟩⟩
      refine k _ _ (Int.emod_nonneg _ (by omega)) (Int.emod_lt_of_pos _ m0) ?_ ⟨a, b, c + 1, h1, b0, b1, by omega, by omega⟩
      rw [← hH]
      exact Fr.at_
end

/-! ### the draws of a law -/
theorem atI_ints {xs : List Int} {i : Int} (h0 : 0 ≤ i) (h1 : i < xs.length) : ∃ v, v ∈ xs ∧ xs[i.toNat]? = some v ∧ atI (xs.map V.int) i = some (.int v) := by
  obtain ⟨j, rfl⟩ : ∃ j : Nat, i = (j : Int) := ⟨i.toNat, by omega⟩
  have hj : j < xs.length := by omega
  refine ⟨xs[j], List.getElem_mem hj, by simp [hj], atI_nat (j := j) ?_⟩
  rw [List.getElem?_map, List.getElem?_eq_getElem hj]
  rfl
def spWell (K : PySem.W.Frag) : Sp := fun vs H Q _ => ∃ (a : Addr) (ns : List Int) (i : Int), vs = [.ref a, .int i] ∧ SqL K H a (ns.map V.int) ∧ ns.length ≤ 63 ∧ 0 ≤ i ∧ i ≤ 63 ∧
  ∀ (p : Addr) (H' : Hp), H p = none → Same H H' → Well H' p 0 → Q (.ref p) H'
def spNumber : Sp := fun vs H Q _ => ∃ (p : Addr) (n : Nat), vs = [.ref p] ∧ Well H p n ∧ n ≤ 10 ^ 8 ∧
  ∀ (r : Int) (H' : Hp), -10 ^ 30 < r → r < 10 ^ 30 → Fr p H H' → Well H' p (n + 4) → Q (.int r) H'
/-- a list of speeds that a calendar may have -/
structure Paces (xs : List Int) : Prop where
  lo : ∀ v ∈ xs, 0 ≤ v ∧ v ≤ 3
  pos : ∃ v ∈ xs, v ≠ 0
  len0 : 0 < xs.length
  len1 : xs.length ≤ 12
def spPaces : Sp := fun vs H Q _ => ∃ (p : Addr) (n : Nat) (z : Int), vs = [.ref p, .int z] ∧ Well H p n ∧ n ≤ 10 ^ 8 ∧ 1 ≤ z ∧ z ≤ 12 ∧
  ∀ (q : Addr) (xs : List Int) (H' : Hp), Paces xs → (xs.length : Int) = z → H q = none → q ≠ p → H' q = some (.lst (xs.map V.int)) → Fr p H H' → Well H' p (n + 20) → Q (.ref q) H'
section
variable {P : Program} {w : World} {K : PySem.W.Frag} {mg : Str → Option Value} {base : Heap}
theorem scWell : FnScope ["script", "place", "cell", "seed"] ["script", "place"] (defScope sWell) := ⟨rfl, rfl, rfl, by decide +kernel, rfl, by decide +kernel, by decide +kernel⟩
theorem ok_well {f : Addr} {fd : FuncData} (F : Fun K "_law_well" "_law_well" sWell f fd) (T : Blt mg) : FnOk P w K mg base CX0 1 f fd ["script", "place"] (spWell K) := by
  refine F.ok scWell (fun vs H Q E h => ?_) (fun cdv A outer s H vs Q E hr h => ?_)
  · obtain ⟨a, ns, i, rfl, _⟩ := h
    rfl
  · obtain ⟨a, ns, i, rfl, hS, hl, i0, i1, k⟩ := h
    refine ⟨_, pss_cons (ps_set (i := 2) scWell.nd rfl (.inl rfl) pe_int)
      (C8.pss_cut (ps_if (pt_cmpR op_lt (pv 1) (pe_callB call_len_seq (by rfl) T.len PySem.boot_len (pa_cons (pv 0) pa_nil)) (nomark _))
        (pss_one (ps_set (i := 2) scWell.nd rfl (.inl rfl) (pe_ix ix_list (pv 0) (pv 1) (fun _ _ => rfl)))) pss_nil)
      (pss_cons (ps_set (i := 3) scWell.nd rfl (.inl rfl) (pe_op op_mod (pe_callTy call_int1 (by rfl) T.int (by decide +kernel) (pa_cons (pe_op op_add (pe_op op_mul (pe_callB call_abs (by rfl) T.abs (by decide +kernel) (pa_cons (pv 2) pa_nil)) pe_int) (pe_callTy call_int1 (by rfl) T.int (by decide +kernel) (pa_cons (pe_cmpR op_lt (pv 2) pe_int (nomark _)) pa_nil))) pa_nil)) pe_int))
      (pss_one (ps_ret (pe_lst (pa_cons (pe_op op_mul (pv 2) (pe_callTy call_int1 (by rfl) T.int (by decide +kernel) (pa_cons (pe_cmpR op_ge (pv 2) (pe_op op_pow pe_int pe_int) (nomark _)) pa_nil))) (pa_cons (pe_op op_add (pv 3) (pe_op op_mul pe_int (pv 1))) (pa_cons pe_int pa_nil)))))))), ?_⟩
    refine ⟨fun σ H1 => H1 = H ∧ ∃ z : Int, σ = [some (.ref a), some (.int i), some (.int z), none], ?_, ?_⟩
    · refine ⟨_, rfl, _, rfl, a, _, rfl, .inl hS, _, _, rfl, rfl, _, rfl, ite2 (fun hc => ?_) (fun hc => ?_)⟩
      · have hi : i < ns.length := by
          have := of_decide_eq_true hc
          rw [List.length_map] at this
          exact this
        obtain ⟨v, hv, hv2, e⟩ := atI_ints i0 hi
        exact ⟨_, rfl, _, rfl, a, _, i, _, rfl, rfl, hS, e, rfl, v, rfl⟩
      · exact ⟨rfl, 0, rfl⟩
    · rintro σ H1 ⟨rfl, z, rfl⟩
      refine ⟨_, rfl, _, rfl, _, _, rfl, rfl, .inr ⟨by decide, by decide⟩, _, rfl, _, _, rfl, rfl, .inr ⟨_, rfl, _, _, rfl, rfl, .inl ⟨_, rfl, _, _, rfl, rfl, (by show (0 : Int) < 2305843009213693951; decide), ?_⟩⟩⟩
      generalize hx : ((if z < 0 then -z else z) * 2 + (if decide (z < 0) = true then (1 : Int) else 0)) % 2305843009213693951 = x
      have x0 : 0 ≤ x := by rw [← hx]; exact Int.emod_nonneg _ (by decide)
      have x1 : x < 2305843009213693951 := by rw [← hx]; exact Int.emod_lt_of_pos _ (by decide)
      refine ⟨_, rfl, _, rfl, _, _, rfl, rfl, ⟨by decide, by decide, by decide⟩, _, _, rfl, rfl, .inr ⟨_, rfl, _, _, rfl, rfl, .inr ?_, ?_⟩⟩
      · split <;> exact ⟨by decide, by decide⟩
      refine ⟨_, rfl, _, rfl, _, _, rfl, rfl, .inl ⟨by decide, by decide⟩, _, _, rfl, rfl, (by show 3 ≤ sizeLine; decide), fun p hp => ?_⟩
      exact k p _ hp (same_new hp) ⟨_, _, _, upd_same, by omega, by omega, by decide, by decide⟩
theorem scNumber : FnScope ["well", "way", "found"] ["well"] (defScope sNumber) := ⟨rfl, rfl, rfl, by decide +kernel, rfl, by decide +kernel, by decide +kernel⟩
/-- what a law calls to draw -/
structure Tk (P : Program) (w : World) (K : PySem.W.Frag) (mg : Str → Option Value) (base : Heap) (fT : Addr) (fdT : FuncData) : Prop where
  ok : FnOk P w K mg base CX0 1 fT fdT ["well", "many"] spTake
  at_ : mg "_law_take" = some (.ref fT)
  kp : PySem.W.keepIn K (.ref fT) = true
  bi : Binds K fdT ["well", "many"] []
theorem ok_number {f fT : Addr} {fd fdT : FuncData} (F : Fun K "_law_number" "_law_number" sNumber f fd) (T : Blt mg) (L : Tk P w K mg base fT fdT) : FnOk P w K mg base CX0 2 f fd ["well"] spNumber := by
  refine F.ok scNumber (fun vs H Q E h => ?_) (fun cdv A outer s H vs Q E hr h => ?_)
  · obtain ⟨p, n, rfl, _⟩ := h
    rfl
  · obtain ⟨p, n, rfl, hW, hn, k⟩ := h
    refine ⟨_, pss_cons (ps_set (i := 1) scNumber.nd rfl (.inl rfl) (pe_call L.ok hr (by rfl) L.at_ L.kp L.bi .nil pass0 (pa_cons (pv 0) (pa_cons pe_int pa_nil))))
      (pss_cons (ps_set (i := 2) scNumber.nd rfl (.inl rfl) (pe_call L.ok hr (by rfl) L.at_ L.kp L.bi .nil pass0 (pa_cons (pv 0) (pa_cons (pe_ix ix_list (pe_lst (pa_cons pe_int (pa_cons pe_int (pa_cons pe_int (pa_cons (pe_op op_pow pe_int pe_int) pa_nil))))) (pv 1) (fun _ _ => rfl)) pa_nil))))
      (C8.pss_cut (ps_if (pt_cmpR op_eq (pv 1) pe_int (nomark _))
        (pss_one (ps_set (i := 2) scNumber.nd rfl (.inl rfl) (pe_op op_add (pe_op op_mul (pv 2) (pe_op op_pow pe_int pe_int)) (pe_call L.ok hr (by rfl) L.at_ L.kp L.bi .nil pass0 (pa_cons (pv 0) (pa_cons (pe_op op_pow pe_int pe_int) pa_nil)))))) pss_nil)
      (pss_one (ps_ret (pe_op op_mul (pv 2) (pe_op op_sub pe_int (pe_op op_mul pe_int (pe_call L.ok hr (by rfl) L.at_ L.kp L.bi .nil pass0 (pa_cons (pv 0) (pa_cons pe_int pa_nil)))))))))), ?_⟩
    refine ⟨_, rfl, ⟨_, _, _, rfl, hW, (by omega), (by decide), (by decide), fun r H1 r0 r1 f1 w1 => ?_⟩⟩
    refine ⟨_, rfl, _, _, rfl, rfl, ⟨by decide, by decide, by decide⟩, (by show 4 ≤ sizeLine; decide), fun l hl => ⟨_, rfl, ?_⟩⟩
    have w1' := w1.new (o := .lst [.int 13, .int 60, .int 1000, .int (10 ^ (15 : Int).toNat)]) hl
    obtain ⟨v, hv, hv2, he⟩ := atI_ints (xs := [13, 60, 1000, 10 ^ (15 : Int).toNat]) r0 r1
    have v0 : 0 < v ∧ v ≤ 10 ^ 15 := by
      simp only [List.mem_cons, List.not_mem_nil, or_false] at hv
      rcases hv with rfl | rfl | rfl | rfl <;> decide
    refine ⟨l, _, r, _, rfl, rfl, SqL.of upd_same, he, ⟨_, _, _, rfl, w1', (by omega), v0.1, (by omega), fun x H2 x0 x1 f2 w2 => ?_⟩⟩
    have f02 : Fr p H H2 := (f1.trans (Fr.new hl)).trans f2
    refine ⟨fun σ H3 => ∃ z : Int, σ = [some (.ref p), some (.int r), some (.int z)] ∧ 0 ≤ z ∧ z < 10 ^ 30 ∧ Fr p H H3 ∧ Well H3 p (n + 3), ?_, ?_⟩
    · refine ⟨_, rfl, rfl, _, rfl, ite2 (fun hc => ?_) (fun hc => ?_)⟩
      · refine ⟨_, rfl, _, _, rfl, rfl, ⟨by decide, by decide, by decide⟩, _, _, rfl, rfl, .inl ⟨by omega, by omega⟩, _, rfl, _, _, rfl, rfl, ⟨by decide, by decide, by decide⟩, ?_⟩
        refine ⟨_, _, _, rfl, w2, (by omega), (by decide), (by decide), fun y H3 y0 y1 f3 w3 => ⟨_, _, rfl, rfl, ?_⟩⟩
        refine ⟨_, rfl, ?_, ?_, f02.trans f3, w3⟩
        · have : (0 : Int) ≤ x * 10 ^ (15 : Int).toNat := Int.mul_nonneg x0 (by decide)
          omega
        · have e : (10 : Int) ^ (15 : Int).toNat = 10 ^ 15 := by decide
          rw [e] at y1 ⊢
          omega
      · exact ⟨x, rfl, x0, by omega, f02, w2.mono (by omega)⟩
    · rintro σ H3 ⟨z, rfl, z0, z1, f3, w3⟩
      refine ⟨_, rfl, _, rfl, ⟨_, _, _, rfl, w3, (by omega), (by decide), (by decide), fun y H4 y0 y1 f4 w4 => ?_⟩⟩
      refine ⟨_, _, rfl, rfl, .inl ⟨by decide, by decide⟩, _, _, rfl, rfl, _, _, rfl, rfl, .inr ⟨by omega, by omega⟩, ?_⟩
      have hy : y = 0 ∨ y = 1 := by omega
      refine k _ H4 ?_ ?_ (f3.trans f4) w4
      · rcases hy with rfl | rfl <;> omega
      · rcases hy with rfl | rfl <;> omega
end

theorem Fr.put {p q : Addr} {o : HO} {H J : Hp} (h : H q = none) (f : Fr p H J) : Fr p H (upd J q o) := fun b u e g => by
  rw [upd_ne (fun z => by rw [z, h] at e; cases e)]
  exact f b u e g
theorem rep_ints (k : Nat) (x : Int) : (List.replicate k [V.int x]).flatten = (List.replicate k x).map V.int := by
  induction k with
  | zero => rfl
  | succ k ih =>
    rw [List.replicate_succ, List.flatten_cons, ih, List.replicate_succ, List.map_cons]
    rfl
section
variable {P : Program} {w : World} {K : PySem.W.Frag} {mg : Str → Option Value} {base : Heap}
theorem scPaces : FnScope ["well", "size", "way", "found", "spot", "turn"] ["well", "size"] (defScope sPaces) := ⟨rfl, rfl, rfl, by decide +kernel, rfl, by decide +kernel, by decide +kernel⟩
/-- what stands between the statements of _law_paces -/
structure PMid (H : Hp) (p : Addr) (z : Int) (m : Nat) (q : Addr) (xs : List Int) (H1 : Hp) : Prop where
  new : H q = none
  ne : q ≠ p
  at_ : H1 q = some (.lst (xs.map V.int))
  len : (xs.length : Int) = z
  lo : ∀ v ∈ xs, 0 ≤ v ∧ v ≤ 3
  fr : Fr p H H1
  well : Well H1 p m
theorem ok_paces {f fT : Addr} {fd fdT : FuncData} (F : Fun K "_law_paces" "_law_paces" sPaces f fd) (T : Blt mg) (L : Tk P w K mg base fT fdT) : FnOk P w K mg base CX0 2 f fd ["well", "size"] spPaces := by
  refine F.ok scPaces (fun vs H Q E h => ?_) (fun cdv A outer s H vs Q E hr h => ?_)
  · obtain ⟨p, n, z, rfl, _⟩ := h
    rfl
  · obtain ⟨p, n, z, rfl, hW, hn, z0, z1, k⟩ := h
    refine ⟨_, pss_cons (ps_set (i := 2) scPaces.nd rfl (Or.inr rfl) (pe_call L.ok hr (by rfl) L.at_ L.kp L.bi .nil pass0 (pa_cons (pv 0) (pa_cons pe_int pa_nil))))
      (pss_cons (ps_set (i := 3) scPaces.nd rfl (.inl rfl) (pe_op op_rep (pe_lst (pa_cons pe_int pa_nil)) (pv 1)))
      (C8.pss_cut (ps_if (pt_cmpR op_lt (pv 2) pe_int (nomark _))
        (pss_one (ps_setLc (i := 3) (own := [("turn", 5)]) (g := gName 5) (tt := tYes) rfl scPaces.nd rfl rfl (sw_true rfl rfl rfl (by decide +kernel)) (pi_range1 (by rfl) T.range (pa_cons (pv 1) pa_nil))
          (blkOk_by (N := ["well", "size", "way", "found", "spot", "turn"]) (sc := defScope sPaces) (by decide +kernel)) (fun _ _ _ _ _ => pg_name (i := 5) scPaces.nd rfl (Or.inl rfl)) (fun _ _ _ _ _ => pts_nil)
          (fun _ _ _ _ _ => pe_call L.ok hr (by rfl) L.at_ L.kp L.bi .nil pass0 (pa_cons (pv 0) (pa_cons (pe_op op_sub pe_int (pe_op op_mul pe_int (pv 2))) pa_nil))))) pss_nil)
      (C8.pss_cut (ps_if (pt_cmpR op_eq (pv 2) pe_int (nomark _))
        (pss_one (ps_set (i := 3) scPaces.nd rfl (.inl rfl) (pe_op op_rep (pe_lst (pa_cons (pe_op op_add pe_int (pe_call L.ok hr (by rfl) L.at_ L.kp L.bi .nil pass0 (pa_cons (pv 0) (pa_cons pe_int pa_nil)))) pa_nil)) (pv 1)))) pss_nil)
      (C8.pss_cut (ps_if (pt_cmpR op_eq (pe_callB (cr_max rfl) (by rfl) T.max (by decide +kernel) (pa_cons (pv 3) pa_nil)) pe_int (nomark _))
        (pss_cons (ps_set (i := 4) scPaces.nd rfl (.inl rfl) (pe_call L.ok hr (by rfl) L.at_ L.kp L.bi .nil pass0 (pa_cons (pv 0) (pa_cons (pv 1) pa_nil))))
        (pss_one (ps_asg (pe_op op_add pe_int (pe_call L.ok hr (by rfl) L.at_ L.kp L.bi .nil pass0 (pa_cons (pv 0) (pa_cons pe_int pa_nil)))) (pg_sub (pv 3) (pv 4) set_list)))) pss_nil)
      (pss_one (ps_ret (pv 3))))))), ?_⟩
    refine ⟨_, rfl, ⟨_, _, _, rfl, hW, (by omega), (by decide), (by decide), fun r H1 r0 r1 f1 w1 => ?_⟩⟩
    refine ⟨(by show 1 ≤ sizeLine; decide), fun l hl => ⟨_, rfl, l, z, _, rfl, rfl, upd_same, by omega, by omega, by show 1 * z.toNat ≤ sizeLine; rw [sizeLine_eq]; omega, fun q hq => ?_⟩⟩
    rw [rep_ints]
    have hq1 : H1 q = none := by
      have ne : q ≠ l := fun e => by rw [e, upd_same] at hq; cases hq
      rw [upd_ne ne] at hq
      exact hq
    have free : ∀ {c : Addr} {J : Hp}, Fr p H J → Well J p (n + 1) → J c = none → H c = none ∧ c ≠ p := fun {c J} g g2 e => by
      refine ⟨?_, (g2.ne e).symm⟩
      cases e2 : H c with
      | none => rfl
      | some o =>
        rw [g c o e2 (g2.ne e).symm] at e
        cases e
    have hqH := free f1 w1 hq1
    have wL := (w1.new (o := .lst [V.int 0]) hl).new (o := .lst ((List.replicate z.toNat 0).map V.int)) hq
    have fL : Fr p H _ := (f1.trans (Fr.new (o := .lst [V.int 0]) hl)).trans (Fr.new (o := .lst ((List.replicate z.toNat 0).map V.int)) hq)
    have base0 : PMid H p z (n + 1) q (List.replicate z.toNat 0) (upd (upd H1 l (.lst [V.int 0])) q (.lst ((List.replicate z.toNat 0).map V.int))) :=
      ⟨hqH.1, hqH.2, upd_same, by rw [List.length_replicate]; omega, fun v hv => by rw [List.eq_of_mem_replicate hv]; exact ⟨by decide, by decide⟩, fL, wL⟩
    generalize upd (upd H1 l (.lst [V.int 0])) q (.lst ((List.replicate z.toNat 0).map V.int)) = HL at base0
    refine ⟨fun σ J => ∃ (q : Addr) (xs : List Int), σ = [some (.ref p), some (.int z), some (.int r), some (.ref q), none, none] ∧ PMid H p z (n + 13) q xs J, ?_, ?_⟩
    · refine ⟨_, rfl, _, _, rfl, rfl, _, rfl, ite2 (fun hc => ?_) (fun hc => ?_)⟩
      · have hr2 : r < 2 := of_decide_eq_true hc
        refine ⟨_, rfl, z, rfl, by omega, by omega, fun D hD => ?_⟩
        have hDn : D ≠ p := (base0.well.ne hD).symm
        have hDH := free base0.fr base0.well hD
        refine lc_range (lo := 0) (n := z.toNat) (fun i J => ∃ xs : List Int, J D = some (.lst (xs.map V.int)) ∧ xs.length = i ∧ (∀ v ∈ xs, 0 ≤ v ∧ v ≤ 3) ∧ Fr p H J ∧ Well J p (n + 1 + i))
          ⟨[], upd_same, rfl, fun v hv => absurd hv List.not_mem_nil, base0.fr.trans (Fr.new hD), base0.well.new hD⟩ ?_ ?_
        · rintro i J hi ⟨xs, hx, xl, xr, xf, xw⟩
          refine ⟨rfl, _, rfl, _, rfl, _, _, rfl, rfl, .inl ⟨by decide, by decide⟩, _, _, rfl, rfl, ⟨_, _, _, rfl, xw, (by omega), (by omega), (by omega), fun y J2 y0 y1 f2 w2 => ?_⟩⟩
          have hx2 := f2 _ _ hx hDn
          refine ⟨_, hx2, by rw [List.length_map]; exact small1000 (by omega), xs ++ [y], ?_, by simp [xl], ?_, Fr.put hDH.1 (xf.trans f2), (w2.upd_ne hDn.symm).mono (by omega)⟩
          · rw [upd_same, List.map_append]
            rfl
          · intro v hv
            rcases List.mem_append.mp hv with g | g
            · exact xr v g
            · rw [List.mem_singleton.mp g]
              exact ⟨y0, by omega⟩
        · rintro J ⟨xs, hx, xl, xr, xf, xw⟩
          exact ⟨D, xs, rfl, hDH.1, hDH.2, hx, by omega, xr, xf, xw.mono (by omega)⟩
      · exact ⟨q, _, rfl, base0.new, base0.ne, base0.at_, base0.len, base0.lo, base0.fr, base0.well.mono (by omega)⟩
    · rintro σ J ⟨q, xs, rfl, M⟩
      refine ⟨fun σ J => ∃ (q : Addr) (xs : List Int), σ = [some (.ref p), some (.int z), some (.int r), some (.ref q), none, none] ∧ PMid H p z (n + 14) q xs J, ?_, ?_⟩
      · refine ⟨_, rfl, rfl, _, rfl, ite2 (fun hc => ?_) (fun hc => ?_)⟩
        · refine ⟨_, rfl, ⟨_, _, _, rfl, M.well, (by omega), (by decide), (by decide), fun y J2 y0 y1 f2 w2 => ⟨_, _, rfl, rfl, (by show 1 ≤ sizeLine; decide), fun l hl => ?_⟩⟩⟩
          refine ⟨_, rfl, l, z, _, rfl, rfl, upd_same, by omega, by omega, by show 1 * z.toNat ≤ sizeLine; rw [sizeLine_eq]; omega, fun D hD => ?_⟩
          rw [rep_ints]
          have hD2 : J2 D = none := by
            have ne : D ≠ l := fun e => by rw [e, upd_same] at hD; cases hD
            rw [upd_ne ne] at hD
            exact hD
          have g2 := M.fr.trans f2
          refine ⟨D, _, rfl, ?_, (w2.ne hD2).symm, upd_same, by rw [List.length_replicate]; omega, fun v hv => by rw [List.eq_of_mem_replicate hv]; omega, (g2.trans (Fr.new hl)).trans (Fr.new hD), (w2.new hl).new hD⟩
          cases e2 : H D with
          | none => rfl
          | some o =>
            rw [g2 D o e2 (w2.ne hD2).symm] at hD2
            cases hD2
        · exact ⟨q, xs, rfl, M.new, M.ne, M.at_, M.len, M.lo, M.fr, M.well.mono (by omega)⟩
      · rintro σ J ⟨q, xs, rfl, M⟩
        have xl := M.len
        refine ⟨fun σ J => ∃ (q : Addr) (xs : List Int) (y4 : Option V), σ = [some (.ref p), some (.int z), some (.int r), some (.ref q), y4, none] ∧ PMid H p z (n + 20) q xs J ∧ ∃ v ∈ xs, v ≠ 0, ?_, ?_⟩
        · refine ⟨_, rfl, q, xs, rfl, SqL.of M.at_, by omega, fun m hm hmax => ⟨rfl, _, rfl, ite2 (fun hc => ?_) (fun hc => ?_)⟩⟩
          · refine ⟨_, rfl, _, rfl, ⟨_, _, _, rfl, M.well, (by omega), (by omega), (by omega), fun y J2 y0 y1 f2 w2 => ?_⟩⟩
            refine ⟨_, rfl, ⟨_, _, _, rfl, w2, (by omega), (by decide), (by decide), fun x J3 x0 x1 f3 w3 => ⟨_, _, rfl, rfl, ?_⟩⟩⟩
            have h3 := f3 _ _ (f2 _ _ M.at_ M.ne) M.ne
            have hj : ixN (xs.map V.int).length y = some y.toNat := by
              unfold ixN
              rw [if_pos y0, if_pos (by rw [List.length_map]; omega)]
            refine ⟨_, rfl, _, rfl, q, _, y, y.toNat, rfl, rfl, h3, hj, ?_⟩
            refine ⟨q, xs.set y.toNat (1 + x), _, rfl, ⟨M.new, M.ne, ?_, by rw [List.length_set]; exact xl, fun v hv => ?_, Fr.put M.new ((M.fr.trans f2).trans f3), (w3.upd_ne M.ne.symm).mono (by omega)⟩, 1 + x, ?_, by omega⟩
            · rw [upd_same, List.map_set]
            · rcases List.mem_or_eq_of_mem_set hv with g | g
              · exact M.lo v g
              · rw [g]
                omega
            · exact List.mem_set (by omega) _
          · refine ⟨q, xs, _, rfl, ⟨M.new, M.ne, M.at_, M.len, M.lo, M.fr, M.well.mono (by omega)⟩, m, hm, fun e => hc ?_⟩
            rw [e]
            exact decide_eq_true rfl
        · rintro σ J ⟨q, xs, y4, rfl, M, hp⟩
          have xl := M.len
          exact ⟨_, rfl, k q xs J ⟨M.lo, hp, by omega, by omega⟩ M.len M.new M.ne M.at_ M.fr M.well⟩
end

/-! ### the changes that a law draws: tuples of a moment and a speed -/
def Tups (H : Hp) : List Addr → List (Int × Int) → Prop
  | [], [] => True
  | t :: ts, m :: ms => H t = some (.tup [.int m.1, .int m.2]) ∧ Tups H ts ms
  | _, _ => False
theorem Tups.len {H : Hp} : ∀ {ts : List Addr} {ms : List (Int × Int)}, Tups H ts ms → ts.length = ms.length
  | [], [], _ => rfl
  | _ :: _, _ :: _, h => by
    rw [List.length_cons, List.length_cons, Tups.len h.2]
theorem Tups.imp {H H' : Hp} : ∀ {ts : List Addr} {ms : List (Int × Int)}, (∀ t xs, H t = some (.tup xs) → H' t = some (.tup xs)) → Tups H ts ms → Tups H' ts ms
  | [], [], _, _ => trivial
  | _ :: _, _ :: _, f, h => ⟨f _ _ h.1, Tups.imp f h.2⟩
theorem Tups.same {H H' : Hp} {ts : List Addr} {ms : List (Int × Int)} (h : Tups H ts ms) (f : Same H H') : Tups H' ts ms := h.imp fun _ _ e => f _ _ e
theorem Tups.fr {H H' : Hp} {p : Addr} {n : Nat} {ts : List Addr} {ms : List (Int × Int)} (h : Tups H ts ms) (w : Well H p n) (f : Fr p H H') : Tups H' ts ms := h.imp fun t xs e => f _ _ e fun z => by
  obtain ⟨a, b, c, g, _⟩ := w
  rw [z, g] at e
  cases e
theorem Tups.put {H : Hp} {q : Addr} {ys : List V} {o : HO} {ts : List Addr} {ms : List (Int × Int)} (h : Tups H ts ms) (g : H q = some (.lst ys)) : Tups (upd H q o) ts ms := h.imp fun t xs e => by
  rw [upd_ne (fun z => by rw [z, g] at e; cases e)]
  exact e
theorem Tups.snoc {H : Hp} {t : Addr} {m : Int × Int} : ∀ {ts : List Addr} {ms : List (Int × Int)}, Tups H ts ms → H t = some (.tup [.int m.1, .int m.2]) → Tups H (ts ++ [t]) (ms ++ [m])
  | [], [], _, g => ⟨g, trivial⟩
  | _ :: _, _ :: _, h, g => ⟨h.1, Tups.snoc h.2 g⟩
theorem Tups.get {H : Hp} : ∀ {ts : List Addr} {ms : List (Int × Int)} {i : Nat} {t : Addr}, Tups H ts ms → ts[i]? = some t → ∃ m, ms[i]? = some m ∧ H t = some (.tup [.int m.1, .int m.2])
  | _ :: _, m :: _, 0, t, h, e => by
    obtain rfl := Option.some.inj e
    exact ⟨m, rfl, h.1⟩
  | _ :: _, _ :: _, i + 1, t, h, e => Tups.get (i := i) h.2 e
/-- what a calendar takes as changes -/
structure Marks (cap : Int) (ms : List (Int × Int)) : Prop where
  asc : ms.Pairwise fun a b => a.1 < b.1
  val : ∀ m ∈ ms, 0 ≤ m.2 ∧ m.2 ≤ 3
  big : ∀ m ∈ ms, -(2 * 10 ^ 30) < m.1 ∧ m.1 < 2 * 10 ^ 30
  len : (ms.length : Int) ≤ cap
def spMarks : Sp := fun vs H Q _ => ∃ (p : Addr) (n : Nat) (z cap : Int), vs = [.ref p, .int z, .int cap] ∧ Well H p n ∧ n ≤ 10 ^ 7 ∧ 1 ≤ z ∧ z ≤ 1000 ∧ 0 ≤ cap ∧ cap ≤ 3 ∧
  ∀ (q : Addr) (ts : List Addr) (ms : List (Int × Int)) (H' : Hp), Marks cap ms → H q = none → q ≠ p → H' q = some (.lst (ts.map V.ref)) → Tups H' ts ms → (∀ t ∈ ts, H t = none) → Fr p H H' → Well H' p (n + 20) → Q (.ref q) H'
/-- _law_number stands at fN -/
structure Nb (P : Program) (w : World) (K : PySem.W.Frag) (mg : Str → Option Value) (base : Heap) (fN : Addr) (fdN : FuncData) : Prop where
  ok : FnOk P w K mg base CX0 2 fN fdN ["well"] spNumber
  at_ : mg "_law_number" = some (.ref fN)
  kp : PySem.W.keepIn K (.ref fN) = true
  bi : Binds K fdN ["well"] []
section
variable {P : Program} {w : World} {K : PySem.W.Frag} {mg : Str → Option Value} {base : Heap}
theorem scMarks : FnScope ["well", "size", "cap", "found", "many", "at", "turn"] ["well", "size", "cap"] (defScope sMarks) := ⟨rfl, rfl, rfl, by decide +kernel, rfl, by decide +kernel, by decide +kernel⟩
theorem free_of {p c : Addr} {n : Nat} {H J : Hp} (f : Fr p H J) (wl : Well J p n) (e : J c = none) : H c = none ∧ c ≠ p := by
  have g := (wl.ne e).symm
  refine ⟨?_, g⟩
  cases e2 : H c with
  | none => rfl
  | some o =>
    rw [f c o e2 g] at e
    cases e
theorem ok_marks {f fT fN : Addr} {fd fdT fdN : FuncData} (F : Fun K "_law_marks" "_law_marks" sMarks f fd) (T : Blt mg) (L : Tk P w K mg base fT fdT) (B : Nb P w K mg base fN fdN) : FnOk P w K mg base CX0 3 f fd ["well", "size", "cap"] spMarks := by
  refine F.ok scMarks (fun vs H Q E h => ?_) (fun cdv A outer s H vs Q E hr h => ?_)
  · obtain ⟨p, n, z, cap, rfl, _⟩ := h
    rfl
  · obtain ⟨p, n, z, cap, rfl, hW, hn, z0, z1, c0, c1, k⟩ := h
    have hr1 : Room 1 _ := hr.mono (by decide)
    refine ⟨_, pss_cons (ps_set (i := 3) scMarks.nd rfl (.inl rfl) (pe_lst pa_nil))
      (pss_cons (ps_set (i := 4) scMarks.nd rfl (.inl rfl) (pe_call L.ok hr1 (by rfl) L.at_ L.kp L.bi .nil pass0 (pa_cons (pv 0) (pa_cons (pe_op op_add (pv 2) pe_int) pa_nil))))
      (pss_cons (ps_set (i := 5) scMarks.nd rfl (.inl rfl) (pe_call B.ok hr (by rfl) B.at_ B.kp B.bi .nil pass0 (pa_cons (pv 0) pa_nil)))
      (pss_cons (ps_for PassesOwn.never rfl (pi_range1 (by rfl) T.range (pa_cons (pv 4) pa_nil)) (pg_name (i := 6) scMarks.nd rfl (.inl rfl))
        (pss_cons (ps_expr (pe_bm PySem.F.plainAttrs_list PySem.F.slot_list_append PySem.F.type_list_append mt_append (pv 3) (pa_cons (pe_tup (pa_cons (pv 5) (pa_cons (pe_call L.ok hr1 (by rfl) L.at_ L.kp L.bi .nil pass0 (pa_cons (pv 0) (pa_cons pe_int pa_nil))) pa_nil))) pa_nil)))
        (pss_one (ps_set (i := 5) scMarks.nd rfl (.inl rfl) (pe_op op_add (pe_op op_add (pv 5) pe_int) (pe_call L.ok hr1 (by rfl) L.at_ L.kp L.bi .nil pass0 (pa_cons (pv 0) (pa_cons (pe_ix ix_list (pe_lst (pa_cons pe_int (pa_cons pe_int (pa_cons (pe_op op_mul pe_int (pv 1)) (pa_cons (pe_op op_pow pe_int pe_int) pa_nil)))))
          (pe_call L.ok hr1 (by rfl) L.at_ L.kp L.bi .nil pass0 (pa_cons (pv 0) (pa_cons pe_int pa_nil))) (fun _ _ => rfl)) pa_nil))))))))
      (pss_one (ps_ret (pv 3)))))), ?_⟩
    refine ⟨Nat.zero_le _, fun q hq => ?_⟩
    have qp : q ≠ p := (hW.ne hq).symm
    refine ⟨_, rfl, _, rfl, _, _, rfl, rfl, ⟨_, _, _, rfl, hW.new hq, (by omega), (by omega), (by omega), fun m H1 m0 m1 f1 w1 => ?_⟩⟩
    refine ⟨_, rfl, ⟨_, _, rfl, w1, by omega, fun a0 H2 a1 a2 f2 w2 => ?_⟩⟩
    have f02 : Fr p H H2 := ((Fr.new hq).trans f1).trans f2
    have q2 : H2 q = some (.lst []) := f2 _ _ (f1 _ _ upd_same qp) qp
    refine ⟨_, rfl, m, rfl, by omega, by omega, for_range (lo := 0) (n := m.toNat) (fun i σ J => ∃ (ts : List Addr) (ms : List (Int × Int)) (a : Int) (y : Option V), σ = [some (.ref p), some (.int z), some (.int cap), some (.ref q), some (.int m), some (.int a), y] ∧
        J q = some (.lst (ts.map V.ref)) ∧ Tups J ts ms ∧ (∀ t ∈ ts, H t = none) ∧ ms.length = i ∧ (ms.Pairwise fun a b => a.1 < b.1) ∧ (∀ v ∈ ms, 0 ≤ v.2 ∧ v.2 ≤ 3) ∧ (∀ v ∈ ms, -10 ^ 30 < v.1 ∧ v.1 < a) ∧ -10 ^ 30 < a ∧ a < 10 ^ 30 + i * (10 ^ 29 + 1) ∧ Fr p H J ∧ Well J p (n + 5 + i * 3))
      ⟨[], [], a0, none, rfl, q2, trivial, fun t ht => absurd ht List.not_mem_nil, rfl, List.Pairwise.nil, fun v hv => absurd hv List.not_mem_nil, fun v hv => absurd hv List.not_mem_nil, a1, by omega, f02, w2.mono (by omega)⟩ ?_ ?_⟩
    · rintro i σ J hi ⟨ts, ms, a, y, rfl, hq3, tp, tn, ml, asc, val, big, b0, b1, fJ, wJ⟩
      have him : (i : Int) < m := by omega
      have ml3 : i ≤ 3 := by omega
      refine ⟨_, rfl, .inl ⟨rfl, _, SqL.of hq3⟩, _, rfl, _, rfl, ⟨_, _, _, rfl, wJ, (by omega), (by decide), (by decide), fun v J2 v0 v1 f2 w2 => ?_⟩⟩
      have hq4 := f2 _ _ hq3 qp
      have tp2 := tp.fr wJ f2
      refine ⟨(by show 2 ≤ sizeLine; decide), fun t ht => ?_⟩
      have tq : q ≠ t := ne_of_none hq4 ht
      have ft := free_of (fJ.trans f2) w2 ht
      have w3 := w2.new (o := .tup [.int a, .int v]) ht
      have hq5 : (upd J2 t (.tup [.int a, .int v])) q = some (.lst (ts.map V.ref)) := by rw [upd_ne tq]; exact hq4
      have tl := tp.len
      refine ⟨q, _, .ref t, rfl, rfl, hq5, by rw [List.length_map]; exact small1000 (by omega), ?_⟩
      have tp3 : Tups (upd (upd J2 t (.tup [.int a, .int v])) q (.lst (ts.map V.ref ++ [.ref t]))) (ts ++ [t]) (ms ++ [(a, v)]) :=
        ((tp2.same (same_new ht)).snoc (m := (a, v)) upd_same).put hq5
      have w4 := w3.upd_ne (o := .lst (ts.map V.ref ++ [.ref t])) qp.symm
      have f4 : Fr p H (upd (upd J2 t (.tup [.int a, .int v])) q (.lst (ts.map V.ref ++ [.ref t]))) := Fr.put (by exact (free_of (Fr.refl p H) hW hq).1) (Fr.put ft.1 (fJ.trans f2))
      have hq6 : (upd (upd J2 t (.tup [.int a, .int v])) q (.lst (ts.map V.ref ++ [.ref t]))) q = some (.lst ((ts ++ [t]).map V.ref)) := by rw [upd_same, List.map_append]; rfl
      generalize upd (upd J2 t (.tup [.int a, .int v])) q (.lst (ts.map V.ref ++ [.ref t])) = J4 at tp3 w4 f4 hq6
      refine ⟨_, rfl, _, _, rfl, rfl, _, rfl, _, rfl, _, _, rfl, rfl, .inl ⟨by decide, by decide⟩, _, _, rfl, rfl, ⟨by decide, by decide, by decide⟩, (by show 4 ≤ sizeLine; decide), fun l hl => ?_⟩
      have w5 := w4.new (o := .lst [.int 1, .int 4, .int (3 * z), .int (10 ^ (29 : Int).toNat)]) hl
      have lp := (w4.ne hl).symm
      refine ⟨_, rfl, ⟨_, _, _, rfl, w5, (by omega), (by decide), (by decide), fun x J6 x0 x1 f6 w6 => ?_⟩⟩
      obtain ⟨d, hd, hd2, he⟩ := atI_ints (xs := [1, 4, 3 * z, 10 ^ (29 : Int).toNat]) x0 x1
      have d0 : 0 < d ∧ d ≤ 10 ^ 29 := by
        have e : (10 : Int) ^ (29 : Int).toNat = 10 ^ 29 := by decide
        rw [e] at hd
        simp only [List.mem_cons, List.not_mem_nil, or_false] at hd
        rcases hd with rfl | rfl | rfl | rfl <;> omega
      refine ⟨l, _, x, _, rfl, rfl, SqL.of (f6 _ _ upd_same lp), he, ⟨_, _, _, rfl, w6, (by omega), d0.1, (by omega), fun u J7 u0 u1 f7 w7 => ?_⟩⟩
      have f47 : Fr p J4 J7 := ((Fr.new hl).trans f6).trans f7
      refine ⟨_, _, rfl, rfl, ts ++ [t], ms ++ [(a, v)], a + 1 + u, _, rfl, f47 _ _ hq6 qp, tp3.fr w4 f47, ?_, by simp [ml], ?_, ?_, ?_, by omega, by omega, f4.trans f47, w7.mono (by omega)⟩
      · intro t' ht'
        rcases List.mem_append.mp ht' with g | g
        · exact tn t' g
        · rw [List.mem_singleton.mp g]
          exact ft.1
      · rw [List.pairwise_append]
        refine ⟨asc, List.pairwise_singleton _ _, fun a1 h1 b1 h2 => ?_⟩
        rw [List.mem_singleton.mp h2]
        exact (big a1 h1).2
      · intro v' hv'
        rcases List.mem_append.mp hv' with g | g
        · exact val v' g
        · rw [List.mem_singleton.mp g]
          exact ⟨v0, by omega⟩
      · intro v' hv'
        rcases List.mem_append.mp hv' with g | g
        · have := big v' g
          omega
        · rw [List.mem_singleton.mp g]
          omega
    · rintro σ J ⟨ts, ms, a, y, rfl, hq3, tp, tn, ml, asc, val, big, b0, b1, fJ, wJ⟩
      have hm : m ≤ cap := by omega
      have ml3 : m.toNat ≤ 3 := by omega
      exact ⟨_, rfl, k q ts ms J ⟨asc, val, fun v hv => by have := big v hv; omega, by omega⟩ (free_of (Fr.refl p H) hW hq).1 qp hq3 tp tn fJ (wJ.mono (by omega))⟩
end

/-! ### the calendar: what its constructor asks, and what it leaves -/
structure Con (mg : Str → Option Value) : Prop where
  gw : ∃ t, mg "GREATEST_WEEK" = some (.int 12 t)
  gs : ∃ t, mg "GREATEST_SPEED" = some (.int 3 t)
  enum : mg "enumerate" = none
def spIsSpeed : Sp := fun vs H Q _ => ∃ v : Int, vs = [.int v] ∧ Q (.bl (decide (0 ≤ v ∧ v ≤ 3))) H
def spChkS (K : PySem.W.Frag) : Sp := fun vs H Q _ => ∃ (a : Addr) (ps : List Int), vs = [.ref a] ∧ SqL K H a (ps.map V.int) ∧ Paces ps ∧ ∀ H', Same H H' → Q .non H'
/-- changes that are right -/
structure Fit (ms : List (Int × Int)) : Prop where
  asc : ms.Pairwise fun a b => a.1 < b.1
  val : ∀ m ∈ ms, 0 ≤ m.2 ∧ m.2 ≤ 3
  len : ms.length ≤ 1000
def spChkC (K : PySem.W.Frag) : Sp := fun vs H Q _ => ∃ (a : Addr) (ts : List Addr) (ms : List (Int × Int)), vs = [.ref a] ∧ SqL K H a (ts.map V.ref) ∧ Tups H ts ms ∧ Fit ms ∧ ∀ H', Same H H' → Q .non H'
/-- whether a change stands behind the one ahead of it -/
def behind (ms : List (Int × Int)) (i : Nat) : Bool := decide (i = 0) || decide ((ms.getD (i - 1) (0, 0)).1 < (ms.getD i (0, 0)).1)
def spChkW : Sp := fun vs H Q _ => ∃ n : Int, vs = [.int n] ∧ 1 ≤ n ∧ n ≤ 12 ∧ Q .non H
def spBehind (K : PySem.W.Frag) : Sp := fun vs H Q _ => ∃ (a : Addr) (ts : List Addr) (ms : List (Int × Int)) (i : Nat), vs = [.ref a, .int (i : Int)] ∧ SqL K H a (ts.map V.ref) ∧ Tups H ts ms ∧ i < ms.length ∧ Q (.bl (behind ms i)) H
/-- a def of the program stands under a name of its module -/
structure At (P : Program) (w : World) (K : PySem.W.Frag) (mg : Str → Option Value) (base : Heap) (k : Nat) (x : Str) (ps : List Str) (sp : Sp) (f : Addr) (fd : FuncData) : Prop where
  ok : FnOk P w K mg base CX0 k f fd ps sp
  at_ : mg x = some (.ref f)
  kp : PySem.W.keepIn K (.ref f) = true
  bi : Binds K fd ps []
section
variable {P : Program} {w : World} {K : PySem.W.Frag} {mg : Str → Option Value} {base : Heap}
theorem scIsSpeed : FnScope ["number"] ["number"] (defScope sIsSpeed) := ⟨rfl, rfl, rfl, by decide +kernel, rfl, by decide +kernel, by decide +kernel⟩
theorem ok_isSpeed {f : Addr} {fd : FuncData} (F : Fun K "is_speed" "is_speed" sIsSpeed f fd) (C : Con mg) : FnOk P w K mg base CX0 1 f fd ["number"] spIsSpeed := by
  refine F.ok scIsSpeed (fun vs H Q E h => ?_) (fun cdv A outer s H vs Q E hr h => ?_)
  · obtain ⟨v, rfl, _⟩ := h
    rfl
  · obtain ⟨v, rfl, q⟩ := h
    obtain ⟨t, ht⟩ := C.gs
    refine ⟨_, pss_one (ps_ret (pe_chain op_le op_le pe_int (pv 0) (pe_glob (v := .int 3) (by rfl) ht ⟨t, rfl⟩))), ?_⟩
    refine ⟨_, rfl, _, _, rfl, rfl, _, rfl, ite2 (fun h => ?_) (fun h => ?_)⟩
    · refine ⟨_, _, rfl, rfl, ?_⟩
      have h0 : 0 ≤ v := of_decide_eq_true h
      have e : decide (0 ≤ v ∧ v ≤ 3) = decide (v ≤ 3) := by
        rw [decide_eq_decide]
        omega
      rw [e] at q
      exact q
    · have h0 : ¬ 0 ≤ v := fun g => h (decide_eq_true g)
      have e : decide (0 ≤ v ∧ v ≤ 3) = false := decide_eq_false fun g => h0 g.1
      rw [e] at q
      exact q
theorem scChkW : FnScope ["number"] ["number"] (defScope sChkWeek) := ⟨rfl, rfl, rfl, by decide +kernel, rfl, by decide +kernel, by decide +kernel⟩
theorem ok_chkW {f : Addr} {fd : FuncData} (F : Fun K "check_week" "check_week" sChkWeek f fd) (C : Con mg) : FnOk P w K mg base CX0 1 f fd ["number"] spChkW := by
  refine F.ok scChkW (fun vs H Q E h => ?_) (fun cdv A outer s H vs Q E hr h => ?_)
  · obtain ⟨n, rfl, _⟩ := h
    rfl
  · obtain ⟨n, rfl, n1, n2, q⟩ := h
    obtain ⟨t, ht⟩ := C.gw
    refine ⟨_, pss_one (ps_if (pt_not (pt_chain op_le op_le pe_int (pv 0) (pe_glob (v := .int 12) (by rfl) ht ⟨t, rfl⟩))) (pss_one ps_never) pss_nil), ?_⟩
    refine ⟨_, rfl, _, _, rfl, rfl, _, rfl, ite2 (fun g => ?_) (fun g => absurd (decide_eq_true (by omega)) g)⟩
    refine ⟨_, _, rfl, rfl, _, rfl, ite2 (fun g2 => absurd g2 ?_) (fun _ => q)⟩
    rw [decide_eq_true (by omega)]
    decide
theorem scBehind : FnScope ["changes", "index"] ["changes", "index"] (defScope sBehind) := ⟨rfl, rfl, rfl, by decide +kernel, rfl, by decide +kernel, by decide +kernel⟩
theorem behind_fit {ms : List (Int × Int)} {i : Nat} (h : ms.Pairwise fun a b => a.1 < b.1) (hi : i < ms.length) : behind ms i = true := by
  unfold behind
  cases i with
  | zero => rfl
  | succ j =>
    have lt := List.pairwise_iff_getElem.mp h j (j + 1) (by omega) hi (by omega)
    simp only [Nat.add_sub_cancel]
    rw [List.getD_eq_getElem?_getD, List.getD_eq_getElem?_getD, List.getElem?_eq_getElem hi, List.getElem?_eq_getElem (by omega : j < ms.length)]
    simp [lt]
theorem ok_behind {f : Addr} {fd : FuncData} (F : Fun K "is_behind" "is_behind" sBehind f fd) : FnOk P w K mg base CX0 1 f fd ["changes", "index"] (spBehind K) := by
  refine F.ok scBehind (fun vs H Q E h => ?_) (fun cdv A outer s H vs Q E hr h => ?_)
  · obtain ⟨a, ts, ms, i, rfl, _⟩ := h
    rfl
  · obtain ⟨a, ts, ms, i, rfl, hS, tp, hi, q⟩ := h
    refine ⟨_, pss_one (ps_ret (pe_or (pe_cmpR op_eq (pv 1) pe_int (nomark _)) (pe_one (pe_cmpR op_lt
      (pe_ix ix_tup (pe_ix ix_list (pv 0) (pe_op op_sub (pv 1) pe_int) (fun _ _ => rfl)) pe_int (fun _ _ => rfl))
      (pe_ix ix_tup (pe_ix ix_list (pv 0) (pv 1) (fun _ _ => rfl)) pe_int (fun _ _ => rfl)) (nomark _))))), ?_⟩
    have tl := tp.len
    have ez : decide (V.int (i : Int) = V.int 0) = decide (i = 0) := by
      rw [decide_eq_decide]
      exact ⟨fun e => by injection e with e; omega, fun e => by rw [e]; rfl⟩
    refine ⟨_, rfl, rfl, _, rfl, ?_⟩
    rw [ez]
    cases i with
    | zero => exact q
    | succ j =>
      have hj : j < ts.length := by omega
      have hj1 : j + 1 < ts.length := by omega
      obtain ⟨m', hm', hm2'⟩ := tp.get (List.getElem?_eq_getElem hj)
      obtain ⟨m, hm, hm2⟩ := tp.get (List.getElem?_eq_getElem hj1)
      have ej : (((j + 1 : Nat) : Int) - 1) = (j : Nat) := by omega
      refine ⟨_, rfl, _, rfl, _, _, rfl, rfl, a, _, _, _, rfl, rfl, hS, at_of (j := j) (v := V.ref ts[j]) ej (by rw [List.getElem?_map, List.getElem?_eq_getElem hj]; rfl), ts[j], _, 0, _, rfl, rfl, SqT.of hm2', atI_nat (j := 0) rfl,
        _, rfl, _, rfl, a, _, _, _, rfl, rfl, hS, atI_nat (j := j + 1) (v := V.ref ts[j + 1]) (by rw [List.getElem?_map, List.getElem?_eq_getElem hj1]; rfl), ts[j + 1], _, 0, _, rfl, rfl, SqT.of hm2, atI_nat (j := 0) rfl, _, _, rfl, rfl, ?_⟩
      have e : behind ms (j + 1) = decide (m'.1 < m.1) := by
        unfold behind
        simp only [Nat.add_sub_cancel]
        rw [List.getD_eq_getElem?_getD, List.getD_eq_getElem?_getD, hm, hm']
        simp
      rw [e] at q
      exact q
theorem scChkS : FnScope ["speeds", "index", "speed"] ["speeds"] (defScope sChkSpeeds) := ⟨rfl, rfl, rfl, by decide +kernel, rfl, by decide +kernel, by decide +kernel⟩
theorem ok_chkS {f fI fW : Addr} {fd fdI fdW : FuncData} (F : Fun K "check_speeds" "check_speeds" sChkSpeeds f fd) (C : Con mg) (T : Blt mg) (I : At P w K mg base 1 "is_speed" ["number"] spIsSpeed fI fdI) (W : At P w K mg base 1 "check_week" ["number"] spChkW fW fdW) :
    FnOk P w K mg base CX0 2 f fd ["speeds"] (spChkS K) := by
  refine F.ok scChkS (fun vs H Q E h => ?_) (fun cdv A outer s H vs Q E hr h => ?_)
  · obtain ⟨a, ps, rfl, _⟩ := h
    rfl
  · obtain ⟨a, ps, rfl, hS, hp, k⟩ := h
    refine ⟨_, pss_cons (ps_expr (pe_call W.ok hr (by rfl) W.at_ W.kp W.bi .nil pass0 (pa_cons (pe_callB call_len_seq (by rfl) T.len PySem.boot_len (pa_cons (pv 0) pa_nil)) pa_nil)))
      (pss_cons (ps_for PassesOwn.never rfl (pi_enum (by rfl) C.enum (pa_cons (pv 0) pa_nil)) (pg_tup rfl (pgs_cons (pg_name (i := 1) scChkS.nd rfl (.inl rfl)) (pgs_cons (pg_name (i := 2) scChkS.nd rfl (.inl rfl)) pgs_nil)))
        (pss_one (ps_if (pt_not (pt_val (pe_call I.ok hr (by rfl) I.at_ I.kp I.bi .nil pass0 (pa_cons (pv 2) pa_nil)))) (pss_one ps_never) pss_nil)))
      (pss_one (ps_if (pt_cmpR op_eq (pe_callB (cr_max rfl) (by rfl) T.max (by decide +kernel) (pa_cons (pv 0) pa_nil)) pe_int (nomark _)) (pss_one ps_never) pss_nil))), ?_⟩
    have l0 := hp.len0
    have l1 := hp.len1
    have hlen : (((ps.map V.int).length : Nat) : Int) = ps.length := by rw [List.length_map]
    refine ⟨_, rfl, a, _, rfl, .inl hS, ⟨_, rfl, by rw [hlen]; omega, by rw [hlen]; omega, ?_⟩⟩
    refine ⟨_, rfl, a, _, rfl, hS, for_it (walk_enum (K := K) (a := a) (xs := ps.map V.int)) (fun i σ J => ∃ y1 y2 : Option V, σ = [some (.ref a), y1, y2] ∧ Same H J) ⟨none, none, rfl, Same.refl H⟩ (fun i σ J _ ⟨_, _, _, g⟩ => g.seq hS) ?_ ?_⟩
    · rintro i x σ J J' hi ⟨y1, y2, rfl, hs⟩ ⟨T', x1, x2, rfl, nT, rfl, e1, e2⟩
      obtain rfl := Option.some.inj e1
      have hi' : i < ps.length := by simpa using hi
      replace e2 : (List.map _ _)[i]? = some x2 := e2
      rw [List.getElem?_map, List.getElem?_eq_getElem hi'] at e2
      obtain rfl := Option.some.inj e2
      refine ⟨T', _, rfl, .inl (.inl upd_same), rfl, _, _, rfl, _, [], rfl, rfl, ?_⟩
      have hv := hp.lo _ (List.getElem_mem hi')
      refine ⟨_, rfl, _, rfl, _, rfl, ?_⟩
      rw [decide_eq_true hv]
      exact ⟨_, _, rfl, hs.trans (same_new nT)⟩
    · rintro σ J ⟨y1, y2, rfl, hs⟩
      refine ⟨_, rfl, a, ps, rfl, hs.seq hS, l0, fun m hm hmax => ⟨rfl, _, rfl, ite2 (fun g => ?_) (fun _ => k J hs)⟩⟩
      have g2 : m = 0 := by
        have := of_decide_eq_true g
        injection this
      obtain ⟨v, hv, v0⟩ := hp.pos
      have := hmax v hv
      have := hp.lo v hv
      omega
theorem scChkC : FnScope ["changes", "index", "_", "speed"] ["changes"] (defScope sChkChanges) := ⟨rfl, rfl, rfl, by decide +kernel, rfl, by decide +kernel, by decide +kernel⟩
theorem ok_chkC {f fI fB : Addr} {fd fdI fdB : FuncData} (F : Fun K "check_changes" "check_changes" sChkChanges f fd) (C : Con mg) (T : Blt mg) (I : At P w K mg base 1 "is_speed" ["number"] spIsSpeed fI fdI) (B : At P w K mg base 1 "is_behind" ["changes", "index"] (spBehind K) fB fdB) :
    FnOk P w K mg base CX0 2 f fd ["changes"] (spChkC K) := by
  refine F.ok scChkC (fun vs H Q E h => ?_) (fun cdv A outer s H vs Q E hr h => ?_)
  · obtain ⟨a, ts, ms, rfl, _⟩ := h
    rfl
  · obtain ⟨a, ts, ms, rfl, hS, tp, fit, k⟩ := h
    refine ⟨_, pss_one (ps_for PassesOwn.never rfl (pi_enum (by rfl) C.enum (pa_cons (pv 0) pa_nil))
        (pg_tup rfl (pgs_cons (pg_name (i := 1) scChkC.nd rfl (.inl rfl)) (pgs_cons (pg_tup rfl (pgs_cons (pg_name (i := 2) scChkC.nd rfl (.inl rfl)) (pgs_cons (pg_name (i := 3) scChkC.nd rfl (.inl rfl)) pgs_nil))) pgs_nil)))
        (pss_one (ps_if (PW.pt (pw_or (pt_not (pt_val (pe_call I.ok hr (by rfl) I.at_ I.kp I.bi .nil pass0 (pa_cons (pv 3) pa_nil))))
          (pw_or1 (pt_not (pt_val (pe_call B.ok hr (by rfl) B.at_ B.kp B.bi .nil pass0 (pa_cons (pv 0) (pa_cons (pv 1) pa_nil)))))))) (pss_one ps_never) pss_nil))), ?_⟩
    have tl := tp.len
    refine ⟨_, rfl, a, _, rfl, hS, for_it (walk_enum (K := K) (a := a) (xs := ts.map V.ref)) (fun i σ J => ∃ y1 y2 y3 : Option V, σ = [some (.ref a), y1, y2, y3] ∧ Same H J) ⟨none, none, none, rfl, Same.refl H⟩ (fun i σ J _ ⟨_, _, _, _, g⟩ => g.seq hS) ?_ ?_⟩
    · rintro i x σ J J' hi ⟨y1, y2, y3, rfl, hs⟩ ⟨T', x1, x2, rfl, nT, rfl, e1, e2⟩
      obtain rfl := Option.some.inj e1
      have hi' : i < ts.length := by simpa using hi
      replace e2 : (List.map _ _)[i]? = some x2 := e2
      rw [List.getElem?_map, List.getElem?_eq_getElem hi'] at e2
      obtain rfl := Option.some.inj e2
      have s2 := hs.trans (same_new (o := .tup [.int (i : Nat), .ref ts[i]]) nT)
      obtain ⟨m, hm, hm2⟩ := (tp.same s2).get (List.getElem?_eq_getElem hi')
      refine ⟨T', _, rfl, .inl (.inl upd_same), rfl, _, _, rfl, _, [], rfl, ⟨_, _, rfl, .inl (.inl hm2), rfl, _, _, rfl, _, [], rfl, rfl, rfl, ?_⟩⟩
      have hv := fit.val _ (List.mem_of_getElem? hm)
      refine ⟨_, rfl, _, rfl, _, rfl, ?_⟩
      rw [decide_eq_true hv]
      refine ⟨_, rfl, _, rfl, ⟨a, ts, ms, i, rfl, s2.seq hS, tp.same s2, by omega, ?_⟩⟩
      rw [behind_fit fit.asc (by omega)]
      exact ⟨_, rfl, _, _, _, rfl, s2⟩
    · rintro σ J ⟨y1, y2, y3, rfl, hs⟩
      exact k J hs
end

/-- a dict comprehension over anything that is walked -/
theorem dc_it {J : It} {n : Nat} {G : Hp → Prop} {Y : Nat → Hp → V → Hp → Prop} (wk : Walk J n G Y) {g : TG} {tt : TT} {tk tv : TE} {vs : List Nat} {σ : L2.St} {H1 : Hp} {D : Addr} {Qd : Hp → Prop}
    (Pv : Nat → Hp → Prop) (h0 : Pv 0 (upd H1 D (.dK []))) (hG : ∀ i H, i ≤ n → Pv i H → G H)
    (hs : ∀ i x H H', i < n → Pv i H → Y i H x H' → g x (wipe σ vs) H' fun σ2 H2 => wipe σ2 vs = wipe σ vs ∧ tt σ2 H2 fun b H3 =>
      if b = true then tk σ2 H3 fun y H4 => tv σ2 H4 fun z H5 => ∃ kvs k, y = kV k ∧ H5 D = some (.dK kvs) ∧ kvs.length < sizeLine ∧
        Pv (i + 1) (upd H5 D (.dK (putK kvs k z))) else Pv (i + 1) H3) (hd : ∀ H, Pv n H → Qd H) :
    ∃ W : Nat → Nat → Hp → Prop, (∃ m, W 0 m (upd H1 D (.dK []))) ∧ ∀ i m H, W i m H →
      (J.stop i H ∧ Qd H) ∨ (J.go i H ∧ ∃ Nx : Hp → Prop, (∀ H', Nx H' → ∃ m', m' < m ∧ W (i + 1) m' H') ∧
        ∀ x H', J.yld i H x H' → g x (wipe σ vs) H' fun σ2 H2 => wipe σ2 vs = wipe σ vs ∧ tt σ2 H2 fun b H3 =>
          if b = true then tk σ2 H3 fun y H4 => tv σ2 H4 fun z H5 => ∃ kvs k, y = kV k ∧ H5 D = some (.dK kvs) ∧
            kvs.length < sizeLine ∧ Nx (upd H5 D (.dK (putK kvs k z))) else Nx H3) := by
  refine ⟨fun i m H => m = n - i ∧ i ≤ n ∧ Pv i H, ⟨n - 0, rfl, Nat.zero_le _, h0⟩, fun i m H hw => ?_⟩
  obtain ⟨rfl, hle, hp⟩ := hw
  rcases Nat.lt_or_ge i n with hlt | hge
  · refine Or.inr ⟨wk.goes i H hlt (hG i H hle hp), Pv (i + 1), fun H' q => ⟨n - (i + 1), by omega, rfl, hlt, q⟩, fun x H' hy => ?_⟩
    exact hs i x H H' hlt hp (wk.yields i H x H' hlt (hG i H hle hp) hy)
  · obtain rfl : i = n := by omega
    exact Or.inl ⟨wk.stops H (hG i H hle hp), hd H hp⟩
/-- the speed of the bare week -/
def paceOf (ps : List Int) (t : Int) : Int := ps.getD (t % ps.length).toNat 0
/-- the changes that change something -/
def realOf (ps : List Int) (ms : List (Int × Int)) : List (Int × Int) := ms.filter fun m => decide (m.2 ≠ paceOf ps m.1)
def kvP (m : Int × Int) : Key × V := (Sum.inl m.1, V.int m.2)
theorem valV_kvP : ∀ (ms : List (Int × Int)) (t : Int), valV (ms.map kvP) (Sum.inl t : Key) = (ms.find? fun m => decide (m.1 = t)).map fun m => V.int m.2
  | [], _ => rfl
  | m :: ms, t => by
    have ih := valV_kvP ms t
    unfold valV at ih ⊢
    rw [List.map_cons, List.find?_cons, List.find?_cons]
    have e : decide ((kvP m).1 = (Sum.inl t : Key)) = decide (m.1 = t) := by
      rw [decide_eq_decide]
      unfold kvP
      constructor
      · intro h
        injection h
      · intro h
        rw [h]
    rw [e]
    cases decide (m.1 = t) with
    | true => rfl
    | false => exact ih
theorem atI_pace {ps : List Int} {t : Int} (h : 0 < ps.length) : atI (ps.map V.int) (t % ps.length) = some (.int (paceOf ps t)) := by
  have h0 := Int.emod_nonneg t (show (ps.length : Int) ≠ 0 by omega)
  have h1 := Int.emod_lt_of_pos t (show (0 : Int) < ps.length by omega)
  obtain ⟨v, _, e, e2⟩ := atI_ints h0 h1
  rw [e2]
  unfold paceOf
  rw [List.getD_eq_getElem?_getD, e]
  rfl
def calF (l d : Addr) : List (Str × V) := putF "_changes" (.ref d) (putF "_speeds" (.ref l) [])
theorem calNe : ¬ (("_speeds" : Str) = "_changes") := by decide +kernel
theorem calF_s (l d : Addr) : (calF l d).lookup ("_speeds" : Str) = some (.ref l) := by
  unfold calF
  rw [lookup_putF, if_neg calNe, lookup_putF, if_pos rfl]
theorem calF_c (l d : Addr) : (calF l d).lookup ("_changes" : Str) = some (.ref d) := by
  unfold calF
  rw [lookup_putF, if_pos rfl]
theorem calF_no (l d : Addr) {m : Str} (h1 : ¬ m = "_changes") (h2 : ¬ m = "_speeds") : (calF l d).lookup m = none := by
  unfold calF
  rw [lookup_putF, if_neg h1, lookup_putF, if_neg h2]
  rfl
/-- a calendar with these speeds and these changes stands at x; its list at l, its dict at d -/
structure CalAt (C : Addr) (H : Hp) (x l d : Addr) (ps : List Int) (ms : List (Int × Int)) : Prop where
  ob : ∃ dx, H x = some (.ins C dx (calF l d))
  ls : H l = some (.lst (ps.map V.int))
  dc : H d = some (.dK (ms.map kvP))
theorem CalAt.same {C : Addr} {H H' : Hp} {x l d : Addr} {ps : List Int} {ms : List (Int × Int)} (h : CalAt C H x l d ps ms) (f : Same H H') : CalAt C H' x l d ps ms := by
  obtain ⟨⟨dx, h1⟩, h2, h3⟩ := h
  exact ⟨⟨dx, f _ _ h1⟩, f _ _ h2, f _ _ h3⟩
theorem CalAt.put {C : Addr} {H : Hp} {x l d c : Addr} {o : HO} {ps : List Int} {ms : List (Int × Int)} (h : CalAt C H x l d ps ms) (n1 : x ≠ c) (n2 : l ≠ c) (n3 : d ≠ c) : CalAt C (upd H c o) x l d ps ms := by
  obtain ⟨⟨dx, h1⟩, h2, h3⟩ := h
  exact ⟨⟨dx, by rw [upd_ne n1]; exact h1⟩, by rw [upd_ne n2]; exact h2, by rw [upd_ne n3]; exact h3⟩
theorem CalAt.fr {C : Addr} {H H' : Hp} {x l d p : Addr} {ps : List Int} {ms : List (Int × Int)} (h : CalAt C H x l d ps ms) (f : Fr p H H') (n1 : x ≠ p) (n2 : l ≠ p) (n3 : d ≠ p) : CalAt C H' x l d ps ms := by
  obtain ⟨⟨dx, h1⟩, h2, h3⟩ := h
  exact ⟨⟨dx, f _ _ h1 n1⟩, f _ _ h2 n2, f _ _ h3 n3⟩
def spInit (C : Addr) (K : PySem.W.Frag) : Sp := fun vs H Q _ => ∃ (x dx a b : Addr) (ps : List Int) (ts : List Addr) (ms : List (Int × Int)), vs = [.ref x, .ref a, .ref b] ∧ H x = some (.ins C dx []) ∧
  SqL K H a (ps.map V.int) ∧ SqL K H b (ts.map V.ref) ∧ Tups H ts ms ∧ Paces ps ∧ Fit ms ∧ a ≠ x ∧ b ≠ x ∧
  ∀ H' l d, CalAt C H' x l d ps (realOf ps ms) → H l = none → H d = none → (∀ c o, H c = some o → c ≠ x → H' c = some o) → Q .non H'
/-- len of a list or a tuple, told by the written part -/
def rLen (K : PySem.W.Frag) : List V → Hp → VK → Prop := fun vs H Q => ∃ (p : Addr) (ys : List V), vs = [.ref p] ∧
  (SqL K H p ys ∨ SqT K H p ys) ∧ Q (.int (ys.length : Nat)) H
/-- the class of calendars as the top has made it -/
structure Cal (K : PySem.W.Frag) (mg : Str → Option Value) (C : Addr) : Prop where
  cl : Cls K C
  nS : NoAttr K C "_speeds"
  nC : NoAttr K C "_changes"
  at_ : mg "Calendar" = some (.ref C)
section
variable {P : Program} {w : World} {K : PySem.W.Frag} {mg : Str → Option Value} {base : Heap}
theorem scInit : FnScope ["self", "speeds", "changes", "moment", "speed"] ["self", "speeds", "changes"] (defScope sInit) := ⟨rfl, rfl, rfl, by decide +kernel, rfl, by decide +kernel, by decide +kernel⟩
theorem ok_init {f fS fC C : Addr} {fd fdS fdC : FuncData} (F : Fun K "__init__" "Calendar.__init__" sInit f fd) (Z : Cal K mg C) (T : Blt mg)
    (S : At P w K mg base 2 "check_speeds" ["speeds"] (spChkS K) fS fdS) (B : At P w K mg base 2 "check_changes" ["changes"] (spChkC K) fC fdC) :
    FnOk P w K mg base CX0 3 f fd ["self", "speeds", "changes"] (spInit C K) := by
  refine F.ok scInit (fun vs H Q E h => ?_) (fun cdv A outer s H vs Q E hr h => ?_)
  · obtain ⟨x, dx, a, b, ps, ts, ms, rfl, _⟩ := h
    rfl
  · obtain ⟨x, dx, a, b, ps, ts, ms, rfl, hx, ha, hb, tp, hp, fit, ax, bx, k⟩ := h
    refine ⟨_, pss_cons (ps_expr (pe_call S.ok hr (by rfl) S.at_ S.kp S.bi .nil pass0 (pa_cons (pv 1) pa_nil)))
      (pss_cons (ps_expr (pe_call B.ok hr (by rfl) B.at_ B.kp B.bi .nil pass0 (pa_cons (pv 2) pa_nil)))
      (pss_cons (ps_fld (pv 0) (pe_callTy call_list_of (by rfl) T.list (by decide +kernel) (pa_cons (pv 1) pa_nil)) rfl)
      (pss_one (ps_fld (pv 0) (pe_dc (own := [("moment", 3), ("speed", 4)]) (g := gTup K 2 (gCons (gName 3) (gCons (gName 4) gNil))) rfl scInit.nd (pi_list (pv 2)) (blkOk_by (N := ["self", "speeds", "changes", "moment", "speed"]) (sc := defScope sInit) (by decide +kernel))
        (fun _ _ _ _ _ => pg_tup rfl (pgs_cons (pg_name (i := 3) scInit.nd rfl (.inl rfl)) (pgs_cons (pg_name (i := 4) scInit.nd rfl (.inl rfl)) pgs_nil)))
        (fun _ _ _ _ _ => pts_one (pt_cmpR op_ne (pv 4) (pe_ix (r := rIxL K) ix_list (pv 1) (pe_op op_mod (pv 3) (pe_callB (r := rLen K) call_len_seq (by rfl) T.len PySem.boot_len (pa_cons (pv 1) pa_nil))) (fun _ _ => rfl)) (nomark _)))
        (fun _ _ _ _ _ => pv 3) (fun _ _ _ _ _ => pv 4)) rfl)))), ?_⟩
    have l0 := hp.len0
    have l1 := hp.len1
    refine ⟨_, rfl, a, ps, rfl, ha, hp, fun H1 s1 => ?_⟩
    refine ⟨_, rfl, b, ts, ms, rfl, s1.seq hb, tp.same s1, fit, fun H2 s2 => ?_⟩
    have s12 := s1.trans s2
    refine ⟨_, rfl, a, _, rfl, .inl (s12.seq ha), fun l hl => ?_⟩
    have hx2 := s12 _ _ hx
    have xl : x ≠ l := ne_of_none hx2 hl
    refine ⟨_, rfl, x, C, dx, _, rfl, (by rw [upd_ne xl]; exact hx2), Z.cl, Z.nS, (by show 0 < 1000; decide), ?_⟩
    generalize hH3 : upd (upd H2 l (.lst (ps.map V.int))) x (.ins C dx (putF "_speeds" (.ref l) [])) = H3
    have f3 : ∀ c o, H c = some o → c ≠ x → H3 c = some o := fun c o e g => by
      have e2 := s12 _ _ e
      rw [← hH3, upd_ne g, upd_ne (ne_of_none e2 hl)]
      exact e2
    have sq : ∀ {c : Addr} {xs : List V}, c ≠ x → SqL K H c xs → SqL K H3 c xs := fun {c xs} g h => by
      rcases h with (h | ⟨o, h⟩) | h
      · exact .inl (.inl (f3 _ _ h g))
      · exact .inl (.inr ⟨o, f3 _ _ h g⟩)
      · exact .inr h
    have hx3 : H3 x = some (.ins C dx (putF "_speeds" (.ref l) [])) := by rw [← hH3]; exact upd_same
    have hl3 : H3 l = some (.lst (ps.map V.int)) := by rw [← hH3, upd_ne xl.symm]; exact upd_same
    have tp3 : Tups H3 ts ms := tp.imp fun t xs e => f3 _ _ e fun z => by
      rw [z, hx] at e
      cases e
    have tl := tp.len
    refine ⟨_, rfl, b, rfl, ⟨_, sq bx hb⟩, fun D hD => dc_it (walk_list (K := K) (a := b) (xs := ts.map V.ref)) (fun i J => J D = some (.dK ((realOf ps (ms.take i)).map kvP)) ∧ ∀ c o, H3 c = some o → J c = some o) ⟨upd_same, same_new hD⟩
      (fun i J _ h => (show Same H3 J from h.2).seq (sq bx hb)) ?_ ?_⟩
    · rintro i y J J' hi ⟨hJ, sJ⟩ ⟨rfl, hy⟩
      have hi' : i < ts.length := by simpa using hi
      rw [List.getElem?_map, List.getElem?_eq_getElem hi'] at hy
      obtain rfl := Option.some.inj hy
      obtain ⟨m, hm, hm2⟩ := (tp3.same (show Same H3 J' from sJ)).get (List.getElem?_eq_getElem hi')
      have et : ms.take (i + 1) = ms.take i ++ [m] := by rw [List.take_add_one, hm]; rfl
      refine ⟨_, _, rfl, .inl (.inl hm2), rfl, _, _, rfl, _, [], rfl, rfl, rfl, ?_⟩
      have hb' := sq ax ha
      have ha' : SqL K J' a (ps.map V.int) := (show Same H3 J' from sJ).seq hb'
      refine ⟨_, rfl, _, rfl, _, rfl, _, rfl, a, _, rfl, .inl ha', _, _, rfl, rfl, (by rw [List.length_map]; omega), a, _, _, _, rfl, rfl, ha', (by rw [List.length_map]; exact atI_pace l0), rfl, ?_⟩
      have ei : decide (V.int m.2 = V.int (paceOf ps m.1)) = decide (m.2 = paceOf ps m.1) := by
        rw [decide_eq_decide]
        exact ⟨fun e => by injection e, fun e => by rw [e]⟩
      rw [ei]
      by_cases hc : m.2 = paceOf ps m.1
      · rw [decide_eq_true hc]
        refine ⟨false, rfl, ?_, sJ⟩
        rw [et]
        unfold realOf
        rw [List.filter_append]
        have : List.filter (fun m => decide (m.2 ≠ paceOf ps m.1)) [m] = [] := by simp [hc]
        rw [this, List.append_nil]
        exact hJ
      · rw [decide_eq_false hc]
        have hr' : ((realOf ps (ms.take i)).map kvP).length < sizeLine := by
          rw [List.length_map]
          refine small1000 (Nat.le_trans (List.length_filter_le _ _) ?_)
          rw [List.length_take]
          have := fit.len
          omega
        have hv : valV ((realOf ps (ms.take i)).map kvP) (Sum.inl m.1 : Key) = none := by
          rw [valV_kvP, List.find?_eq_none.mpr]
          · rfl
          · intro m' hm' e'
            have h1 := (List.mem_filter.mp hm').1
            obtain ⟨j, hj, e⟩ := List.getElem_of_mem h1
            rw [List.length_take] at hj
            rw [List.getElem_take] at e
            have hi2 : i < ms.length := by omega
            have hlt := List.pairwise_iff_getElem.mp fit.asc j i (by omega) hi2 (by omega)
            rw [List.getElem?_eq_getElem hi2] at hm
            have := Option.some.inj hm
            have e3 : m'.1 = m.1 := by simpa using e'
            rw [e, this, e3] at hlt
            omega
        refine ⟨true, rfl, _, rfl, _, rfl, _, Sum.inl m.1, rfl, hJ, hr', ?_, fun c o e => ?_⟩
        · rw [upd_same, putK_new _ hv, et]
          unfold realOf
          rw [List.filter_append]
          have : List.filter (fun m => decide (m.2 ≠ paceOf ps m.1)) [m] = [m] := by simp [hc]
          rw [this, List.map_append]
          rfl
        · rw [upd_ne (ne_of_none e hD)]
          exact sJ c o e
    · rintro J ⟨hJ, sJ⟩
      rw [List.length_map, tl, List.take_length] at hJ
      refine ⟨_, rfl, x, C, dx, _, rfl, sJ _ _ hx3, Z.cl, Z.nC, (by show 1 < 1000; decide), ?_⟩
      have xD : x ≠ D := ne_of_none hx3 hD
      refine k _ l D ⟨⟨dx, upd_same⟩, ?_, ?_⟩ (s12.free hl) ?_ fun c o e g => ?_
      · rw [upd_ne xl.symm]
        exact sJ _ _ hl3
      · rw [upd_ne xD.symm]
        exact hJ
      · cases e : H D with
        | none => rfl
        | some o =>
          rw [f3 D o e (fun z => xD z.symm)] at hD
          cases hD
      · rw [upd_ne g]
        exact sJ _ _ (f3 c o e g)
end

/-! ### what a calendar tells: week, speeds, changes -/
def spWeek (C : Addr) : Sp := fun vs H Q _ => ∃ (x l d : Addr) (ps : List Int) (ms : List (Int × Int)), vs = [.ref x] ∧ CalAt C H x l d ps ms ∧ Q (.int (ps.length : Nat)) H
def spSpeeds (C : Addr) : Sp := fun vs H Q _ => ∃ (x l d : Addr) (ps : List Int) (ms : List (Int × Int)), vs = [.ref x] ∧ CalAt C H x l d ps ms ∧
  ∀ q, H q = none → Q (.ref q) (upd H q (.lst (ps.map V.int)))
def spChanges (C : Addr) : Sp := fun vs H Q _ => ∃ (x l d : Addr) (ps : List Int) (ms : List (Int × Int)), vs = [.ref x] ∧ CalAt C H x l d ps ms ∧
  ∀ (H' : Hp) (q : Addr) (ts : List Addr), Same H H' → H q = none → (∀ t ∈ ts, H t = none) → q ∉ ts → H' q = some (.lst (ts.map V.ref)) → Tups H' ts ms → Q (.ref q) H'
theorem tups_paired {H : Hp} : ∀ {ts : List Addr} {ms : List (Int × Int)}, Paired (fun (t : Addr) (q : Key × V) => H t = some (.tup [kV q.1, q.2])) ts (ms.map kvP) → Tups H ts ms
  | [], [], _ => trivial
  | [], m :: ms, h => nomatch h
  | t :: ts, [], h => nomatch h
  | t :: ts, m :: ms, h => by
    have h' : Paired (fun (t : Addr) (q : Key × V) => H t = some (.tup [kV q.1, q.2])) (t :: ts) (kvP m :: ms.map kvP) := h
    cases h' with
    | cons a b => exact ⟨a, tups_paired b⟩
section
variable {P : Program} {w : World} {K : PySem.W.Frag} {mg : Str → Option Value} {base : Heap}
theorem scGet1 : FnScope ["self"] ["self"] (defScope sWeek) := ⟨rfl, rfl, rfl, by decide +kernel, rfl, by decide +kernel, by decide +kernel⟩
theorem scGet2 : FnScope ["self"] ["self"] (defScope sSpeeds) := ⟨rfl, rfl, rfl, by decide +kernel, rfl, by decide +kernel, by decide +kernel⟩
theorem scGet3 : FnScope ["self"] ["self"] (defScope sChanges) := ⟨rfl, rfl, rfl, by decide +kernel, rfl, by decide +kernel, by decide +kernel⟩
theorem ok_week {f C : Addr} {fd : FuncData} (F : Fun K "week" "Calendar.week" sWeek f fd) (Z : Cal K mg C) (T : Blt mg) : FnOk P w K mg base CX0 1 f fd ["self"] (spWeek C) := by
  refine F.ok scGet1 (fun vs H Q E h => ?_) (fun cdv A outer s H vs Q E hr h => ?_)
  · obtain ⟨x, l, d, ps, ms, rfl, _⟩ := h
    rfl
  · obtain ⟨x, l, d, ps, ms, rfl, ⟨⟨dx, hx⟩, hl, hd⟩, k⟩ := h
    refine ⟨_, pss_one (ps_ret (pe_callB call_len_seq (by rfl) T.len PySem.boot_len (pa_cons (pe_fld (pv 0) rfl) pa_nil))), ?_⟩
    refine ⟨_, rfl, x, C, dx, _, _, rfl, hx, Z.cl, Z.nS, calF_s l d, l, _, rfl, .inl (SqL.of hl), ?_⟩
    rw [List.length_map]
    exact k
theorem ok_speeds {f C : Addr} {fd : FuncData} (F : Fun K "speeds" "Calendar.speeds" sSpeeds f fd) (Z : Cal K mg C) (T : Blt mg) : FnOk P w K mg base CX0 1 f fd ["self"] (spSpeeds C) := by
  refine F.ok scGet2 (fun vs H Q E h => ?_) (fun cdv A outer s H vs Q E hr h => ?_)
  · obtain ⟨x, l, d, ps, ms, rfl, _⟩ := h
    rfl
  · obtain ⟨x, l, d, ps, ms, rfl, ⟨⟨dx, hx⟩, hl, hd⟩, k⟩ := h
    refine ⟨_, pss_one (ps_ret (pe_callTy call_list_of (by rfl) T.list (by decide +kernel) (pa_cons (pe_fld (pv 0) rfl) pa_nil))), ?_⟩
    exact ⟨_, rfl, x, C, dx, _, _, rfl, hx, Z.cl, Z.nS, calF_s l d, l, _, rfl, .inl (SqL.of hl), k⟩
theorem ok_changes {f C : Addr} {fd : FuncData} (F : Fun K "changes" "Calendar.changes" sChanges f fd) (Z : Cal K mg C) (T : Blt mg) : FnOk P w K mg base CX0 1 f fd ["self"] (spChanges C) := by
  refine F.ok scGet3 (fun vs H Q E h => ?_) (fun cdv A outer s H vs Q E hr h => ?_)
  · obtain ⟨x, l, d, ps, ms, rfl, _⟩ := h
    rfl
  · obtain ⟨x, l, d, ps, ms, rfl, ⟨⟨dx, hx⟩, hl, hd⟩, k⟩ := h
    refine ⟨_, pss_one (ps_ret (LiI.pe_listItems rfl (pe_fld (pv 0) rfl) (by rfl) T.list (by decide +kernel))), ?_⟩
    exact ⟨_, rfl, x, C, dx, _, _, rfl, hx, Z.cl, Z.nC, calF_c l d, d, _, rfl, hd, fun H' q ts s1 nq nt qt hq hp => k H' q ts s1 nq nt qt hq (tups_paired hp)⟩
end
/-- a property of the calendars, by its getter -/
structure Pp (P : Program) (w : World) (K : PySem.W.Frag) (mg : Str → Option Value) (base : Heap) (C : Addr) (x : Str) (sp : Sp) (p g : Addr) (fd : FuncData) : Prop where
  of : PropOf K C x p g
  ok : FnOk P w K mg base CX0 1 g fd ["self"] sp
  bi : Binds K fd ["self"] []

/-! ### data whose repr is short -/
structure Rp (d : PyData) (n k : Nat) : Prop where
  lv : d.leavesShort 42 = true
  sh : d.showable = true
  nd : d.hasDict = false
  dp : d.depth ≤ k
  bk : d.bulk ≤ n
structure RpA (xs : List PyData) (n k : Nat) : Prop where
  lv : PyData.leavesShortAll 42 xs = true
  sh : PyData.showableAll xs = true
  nd : PyData.hasDictAll xs = false
  dp : PyData.depthAll xs ≤ k
  bk : PyData.bulkAll xs ≤ n
theorem Rp.int {i : Int} (h0 : -10 ^ 40 < i) (h1 : i < 10 ^ 40) : Rp (.int i) 0 0 := by
  have h : i.natAbs < 10 ^ 40 := by omega
  refine ⟨?_, ?_, rfl, Nat.le_refl _, Nat.le_refl _⟩
  · refine decide_eq_true ?_
    have e := int_text_length_le10 (k := 40) (by decide) h
    show (Str.ofString (toString i)).length ≤ 42
    rw [PySem.ofString_length]
    omega
  · refine decide_eq_true ?_
    by_cases z : i.natAbs = 0
    · rw [z]
      decide
    · have : i.natAbs < 2 ^ 1920 := Nat.lt_trans h (by decide)
      exact (Nat.log2_lt z).mpr this
theorem Rp.bool (b : Bool) : Rp (.bool b) 0 0 := ⟨rfl, rfl, rfl, Nat.le_refl _, Nat.le_refl _⟩
theorem Rp.none : Rp .none 0 0 := ⟨rfl, rfl, rfl, Nat.le_refl _, Nat.le_refl _⟩
theorem Rp.mono {d : PyData} {n k n' k' : Nat} (h : Rp d n k) (g1 : n ≤ n') (g2 : k ≤ k') : Rp d n' k' := ⟨h.lv, h.sh, h.nd, Nat.le_trans h.dp g2, Nat.le_trans h.bk g1⟩
theorem RpA.mono {d : List PyData} {n k n' k' : Nat} (h : RpA d n k) (g1 : n ≤ n') (g2 : k ≤ k') : RpA d n' k' := ⟨h.lv, h.sh, h.nd, Nat.le_trans h.dp g2, Nat.le_trans h.bk g1⟩
theorem Rp.list {xs : List PyData} {n k : Nat} (h : RpA xs n k) : Rp (.list xs) n (k + 1) :=
  ⟨by simp only [PyData.leavesShort, h.lv], by simp only [PyData.showable, h.sh], by simp only [PyData.hasDict, h.nd], by simp only [PyData.depth]; have := h.dp; omega, by simp only [PyData.bulk]; exact h.bk⟩
theorem Rp.tup {xs : List PyData} {n k : Nat} (h : RpA xs n k) : Rp (.tuple xs) n (k + 1) :=
  ⟨by simp only [PyData.leavesShort, h.lv], by simp only [PyData.showable, h.sh], by simp only [PyData.hasDict, h.nd], by simp only [PyData.depth]; have := h.dp; omega, by simp only [PyData.bulk]; exact h.bk⟩
theorem RpA.nil : RpA [] 0 0 := ⟨rfl, rfl, rfl, Nat.le_refl _, Nat.le_refl _⟩
theorem RpA.cons {d : PyData} {xs : List PyData} {n k m j : Nat} (h : Rp d n k) (g : RpA xs m j) : RpA (d :: xs) (n + 1 + m) (k + j) :=
  ⟨by simp only [PyData.leavesShortAll, h.lv, g.lv, Bool.and_self], by simp only [PyData.showableAll, h.sh, g.sh, Bool.and_self], by simp only [PyData.hasDictAll, h.nd, g.nd, Bool.or_self],
    by simp only [PyData.depthAll]; have := h.dp; have := g.dp; omega, by simp only [PyData.bulkAll]; have := h.bk; have := g.bk; omega⟩
theorem RpA.all {n k : Nat} : ∀ {xs : List PyData}, (∀ d ∈ xs, Rp d n k) → RpA xs (xs.length * (n + 1)) k
  | [], _ => RpA.nil.mono (Nat.zero_le _) (Nat.zero_le _)
  | d :: xs, h => by
    have h1 := h d List.mem_cons_self
    have h2 := RpA.all (xs := xs) fun e he => h e (List.mem_cons_of_mem _ he)
    refine ⟨by simp only [PyData.leavesShortAll, h1.lv, h2.lv, Bool.and_self], by simp only [PyData.showableAll, h1.sh, h2.sh, Bool.and_self], by simp only [PyData.hasDictAll, h1.nd, h2.nd, Bool.or_self], ?_, ?_⟩
    · simp only [PyData.depthAll]
      have := h1.dp
      have := h2.dp
      omega
    · simp only [PyData.bulkAll]
      have := h1.bk
      have := h2.bk
      rw [List.length_cons, Nat.add_mul]
      omega
theorem Rp.fits {d : PyData} {n k : Nat} (h : Rp d n k) (g : n ≤ 300000) : d.shown.length ≤ sizeLine := by
  have e := PyData.shown_le_bulk 42 (by decide) d h.lv
  have := h.bk
  rw [sizeLine_eq]
  omega
def rRep2 (K : PySem.W.Frag) : List V → Hp → VK → Prop := fun xs H Q => ∃ (a : Addr) (d : PyData) (n k : Nat), xs = [.ref a] ∧ Dp K H (.ref a) d ∧ Rp d n k ∧ k ≤ 60 ∧ n ≤ 300000 ∧ Q (.str d.shown) H
theorem call_rep2 {X : Cx} (hgd : X.A.guards = some []) (hu : X.A.units + 64 < cLine) : CallR X (.builtin "repr") (rRep2 X.K) := by
  intro pins s σ H xs us Q I r h
  obtain ⟨a, d, n, k, e, hd, hr, hk, hn, q⟩ := h
  exact call_repr hgd hu pins s σ H xs us Q I r ⟨a, d, e, hd, hr.sh, hr.nd, Nat.le_trans hr.dp hk, hr.fits hn, q⟩
/-! ### which data stand where -/
def dInts (xs : List Int) : PyData := .list (xs.map PyData.int)
def dMarks (ms : List (Int × Int)) : PyData := .list (ms.map fun m => PyData.tuple [.int m.1, .int m.2])
theorem dpAll_ints {K : PySem.W.Frag} {H : Hp} : ∀ xs : List Int, DpAll K H (xs.map V.int) (xs.map PyData.int)
  | [] => .nil
  | x :: xs => .cons (.int x) (dpAll_ints xs)
theorem dp_ints {K : PySem.W.Frag} {H : Hp} {a : Addr} {xs : List Int} (h : SqL K H a (xs.map V.int)) : Dp K H (.ref a) (dInts xs) := .lst h (dpAll_ints xs)
theorem dpAll_marks {K : PySem.W.Frag} {H : Hp} : ∀ {ts : List Addr} {ms : List (Int × Int)}, Tups H ts ms → DpAll K H (ts.map V.ref) (ms.map fun m => PyData.tuple [.int m.1, .int m.2])
  | [], [], _ => .nil
  | _ :: _, m :: _, h => .cons (.tup (SqT.of h.1) (.cons (.int m.1) (.cons (.int m.2) .nil))) (dpAll_marks h.2)
theorem dp_marks {K : PySem.W.Frag} {H : Hp} {a : Addr} {ts : List Addr} {ms : List (Int × Int)} (h : SqL K H a (ts.map V.ref)) (g : Tups H ts ms) : Dp K H (.ref a) (dMarks ms) := .lst h (dpAll_marks g)
theorem rp_ints {xs : List Int} (h : ∀ v ∈ xs, -10 ^ 40 < v ∧ v < 10 ^ 40) : Rp (dInts xs) xs.length 1 := by
  have := RpA.all (xs := xs.map PyData.int) (n := 0) (k := 0) fun d hd => by
    obtain ⟨v, hv, rfl⟩ := List.mem_map.mp hd
    exact Rp.int (h v hv).1 (h v hv).2
  refine (Rp.list this).mono ?_ (Nat.le_refl _)
  rw [List.length_map]
  omega
theorem rp_marks {ms : List (Int × Int)} (h : ∀ m ∈ ms, -10 ^ 40 < m.1 ∧ m.1 < 10 ^ 40 ∧ -10 ^ 40 < m.2 ∧ m.2 < 10 ^ 40) : Rp (dMarks ms) (ms.length * 3) 2 := by
  have := RpA.all (xs := ms.map fun m => PyData.tuple [.int m.1, .int m.2]) (n := 2) (k := 1) fun d hd => by
    obtain ⟨m, hm, rfl⟩ := List.mem_map.mp hd
    have g := h m hm
    exact (Rp.tup (.cons (Rp.int g.1 g.2.1) (.cons (Rp.int g.2.2.1 g.2.2.2) .nil))).mono (by omega) (by omega)
  refine (Rp.list this).mono ?_ (Nat.le_refl _)
  rw [List.length_map]
  omega

/-! ### operators of own classes -/
section
variable {X : Cx} {k : Nat} {f C : Addr} {fd : FuncData} {ps : List Str} {sp : Sp}
theorem run_in1 {pins : List (Addr × Obj)} {σ : L2.St} {H : Hp} {s : Shared} {Q : VK} {us : List Value} {vs : List V} (F : FnOk X.prog X.w X.K X.mg X.base CX0 k f fd ps sp) (hr : Room (k + 1) X.A)
    (hb : Binds X.K fd ps []) (I : Inv X pins σ H s) (r : Vals vs us) (h : sp vs H Q E0) : wpAny (model X.prog X.w) X.A.in1 (call (.ref f) us) (EP X pins σ Q) X.xe s := by
  have hl : us.length = ps.length := r.length.symm.trans (F.len _ _ _ _ h)
  have bi := hb s us I.kIn (by rw [List.append_nil]; exact hl)
  rw [List.append_nil] at bi
  refine wpAny_call (codeAny_mono (F.run X.A.in1 X.stack s H ⟨us, []⟩ us vs Q E0 hr.in1 I.env0.in1 bi r h) fun res s2 hq => ?_)
  rcases res with er | fl
  · exact False.elim hq
  · rcases fl with _ | _ | _ | u
    iterate 3 exact False.elim hq
    exact I.after hq
theorem run_here {pins : List (Addr × Obj)} {σ : L2.St} {H : Hp} {s : Shared} {Q : VK} {us : List Value} {vs : List V} (F : FnOk X.prog X.w X.K X.mg X.base CX0 k f fd ps sp) (hr : Room k X.A)
    (hb : Binds X.K fd ps []) (I : Inv X pins σ H s) (r : Vals vs us) (h : sp vs H Q E0) : wpAny (model X.prog X.w) X.A (call (.ref f) us) (EP X pins σ Q) X.xe s := by
  have q : sp (vs ++ []) H Q E0 := by rw [List.append_nil]; exact h
  exact run_fn F hr hb .nil pass0 I r q
/-- what stands behind x[i], i in x of an own class -/
structure Own (K : PySem.W.Frag) (C : Addr) (m : Str) (f : Addr) : Prop where
  at_ : PySem.W.findIn K (.ref C) m = some (some (.ref f))
  fn : PySem.W.isFn K (.ref f) = true
  fi : PySem.W.fnIn K f = true
def rOwn (C : Addr) (sp : Sp) : R2 := fun x y H Q => ∃ a dx fs, x = .ref a ∧ H a = some (.ins C dx fs) ∧ sp [.ref a, y] H Q E0
theorem ix_own (o : Own X.K C "__getitem__" f) (F : FnOk X.prog X.w X.K X.mg X.base CX0 k f fd ps sp) (hr : Room (k + 1) X.A) (hb : Binds X.K fd ps [])
    {a b : Expr} {ta tb : TE} {pos : Pos} (ha : PE X a ta) (hi : PE X b tb)
    (hsl : ∀ (x : Addr) (i : Value), subscripted b true (.ref x) i = runValue (.builtin "lifetime.subscript" ⟨[.ref x, i], []⟩) := by intro _ _; with_unfolding_all rfl) :
    PE X (.Subscript a b pos) (tOp (rOwn C sp) ta tb) := by
  refine ⟨fun pins s σ H Q I h => ?_⟩
  refine Subscript_ (binT ha hi I h fun v u s2 x y H2 I2 rx ry q => ?_)
  obtain ⟨p, dx, fs, rfl, ea, hq⟩ := q
  obtain rfl : v = Value.ref p := rx
  obtain ⟨m, fr⟩ := I2.fr
  obtain ⟨mA, O, _⟩ := ins_get I2.hok ea
  obtain ⟨od, J, _⟩ := O.look
  exact PySem.W.sub_K fr I2.ok.mod.kin J o.at_ o.fi o.fn (run_in1 F hr hb I2 (.cons (show L2.RelV (V.ref p) (Value.ref p) from rfl) (.cons ry .nil)) hq) (hsl p u)
def rIn (C : Addr) (sp : Sp) : R2 := fun y x H Q => ∃ a dx fs, x = .ref a ∧ H a = some (.ins C dx fs) ∧ sp [.ref a, y] H (fun r H' => ∃ b, r = .bl b ∧ Q (.bl b) H') E0
theorem op_inOwn (o : Own X.K C "__contains__" f) (F : FnOk X.prog X.w X.K X.mg X.base CX0 k f fd ps sp) (hr : Room k X.A) (hb : Binds X.K fd ps []) : OpR X (compareOp .In) (rIn C sp) := by
  intro pins s σ H y x v u Q I ry rx h
  obtain ⟨p, dx, fs, rfl, ea, hq⟩ := h
  obtain rfl : u = Value.ref p := rx
  obtain ⟨m, fr⟩ := I.fr
  obtain ⟨mA, O, _⟩ := ins_get I.hok ea
  obtain ⟨od, J, _⟩ := O.look
  refine PySem.W.in_K fr I.ok.mod.kin J o.at_ o.fn (thn (run_here F hr hb I (.cons (show L2.RelV (V.ref p) (Value.ref p) from rfl) (.cons ry .nil)) hq) fun r s2 ⟨z, H2, I2, rz, b, eb, q2⟩ => ?_)
  subst eb
  obtain rfl : r = Value.bool b := rz
  exact wpAny_truthy_bool ⟨.bl b, H2, I2, rfl, q2⟩
end
/-- the speed that a calendar has at a moment -/
def speedAt (ps : List Int) (ms : List (Int × Int)) (t : Int) : Int := ((ms.find? fun m => decide (m.1 = t)).map fun m => m.2).getD (paceOf ps t)
def spGet (C : Addr) : Sp := fun vs H Q _ => ∃ (x l d : Addr) (ps : List Int) (ms : List (Int × Int)) (t : Int), vs = [.ref x, .int t] ∧ CalAt C H x l d ps ms ∧ 0 < ps.length ∧ Q (.int (speedAt ps ms t)) H
def spHas (C : Addr) : Sp := fun vs H Q _ => ∃ (x l d : Addr) (ps : List Int) (ms : List (Int × Int)) (t : Int), vs = [.ref x, .int t] ∧ CalAt C H x l d ps ms ∧ 0 < ps.length ∧ Q (.bl (decide (speedAt ps ms t ≠ 0))) H
section
variable {P : Program} {w : World} {K : PySem.W.Frag} {mg : Str → Option Value} {base : Heap}
theorem scGet : FnScope ["self", "at"] ["self", "at"] (defScope sGet) := ⟨rfl, rfl, rfl, by decide +kernel, rfl, by decide +kernel, by decide +kernel⟩
theorem ok_get {f C : Addr} {fd : FuncData} (F : Fun K "__getitem__" "Calendar.__getitem__" sGet f fd) (Z : Cal K mg C) (T : Blt mg) : FnOk P w K mg base CX0 1 f fd ["self", "at"] (spGet C) := by
  refine F.ok scGet (fun vs H Q E h => ?_) (fun cdv A outer s H vs Q E hr h => ?_)
  · obtain ⟨x, l, d, ps, ms, t, rfl, _⟩ := h
    rfl
  · obtain ⟨x, l, d, ps, ms, t, rfl, ⟨⟨dx, hx⟩, hl, hd⟩, l0, k⟩ := h
    have hu := hu_of hr
    refine ⟨_, pss_one (ps_ret (pe_dget2 hu (pe_fld (pv 0) rfl) (pv 1) (pe_ix ix_list (pe_fld (pv 0) rfl) (pe_op op_mod (pv 1) (pe_callB call_len_seq (by rfl) T.len PySem.boot_len (pa_cons (pe_fld (pv 0) rfl) pa_nil))) (fun _ _ => rfl)) ⟨rfl, rfl, rfl, rfl⟩)), ?_⟩
    have hz : (((ps.map V.int).length : Nat) : Int) = ps.length := by rw [List.length_map]
    refine ⟨_, rfl, x, C, dx, _, _, rfl, hx, Z.cl, Z.nC, calF_c l d, d, rfl, .inl ⟨_, .inl hd⟩, _, rfl, _, rfl, x, C, dx, _, _, rfl, hx, Z.cl, Z.nS, calF_s l d, _, rfl, _, rfl, x, C, dx, _, _, rfl, hx, Z.cl, Z.nS, calF_s l d, l, _, rfl, .inl (SqL.of hl), _, _, rfl, rfl, ?_, l, _, _, .int (paceOf ps t), rfl, rfl, SqL.of hl, ?_, ?_⟩
    · rw [hz]
      omega
    · rw [hz]
      exact atI_pace l0
    · refine ⟨_, DGet.k (k := Sum.inl t) hd, ?_⟩
      rw [valV_kvP]
      unfold speedAt at k
      cases e : ms.find? fun m => decide (m.1 = t) with
      | none =>
        rw [e] at k
        exact k
      | some m =>
        rw [e] at k
        exact k
theorem scHas : FnScope ["self", "x"] ["self", "x"] (defScope sHas) := ⟨rfl, rfl, rfl, by decide +kernel, rfl, by decide +kernel, by decide +kernel⟩
theorem ok_has {f g C : Addr} {fd gd : FuncData} (F : Fun K "__contains__" "Calendar.__contains__" sHas f fd) (o : Own K C "__getitem__" g) (G : FnOk P w K mg base CX0 1 g gd ["self", "at"] (spGet C)) (bG : Binds K gd ["self", "at"] []) :
    FnOk P w K mg base CX0 3 f fd ["self", "x"] (spHas C) := by
  refine F.ok scHas (fun vs H Q E h => ?_) (fun cdv A outer s H vs Q E hr h => ?_)
  · obtain ⟨x, l, d, ps, ms, t, rfl, _⟩ := h
    rfl
  · obtain ⟨x, l, d, ps, ms, t, rfl, cal, l0, k⟩ := h
    obtain ⟨dx, hx⟩ := cal.ob
    refine ⟨_, pss_one (ps_ret (pe_cmpR op_ne (ix_own o G hr bG (pv 0) (pv 1)) pe_int (nomark _))), ?_⟩
    refine ⟨_, rfl, _, rfl, x, dx, _, rfl, hx, ⟨x, l, d, ps, ms, t, rfl, cal, l0, rfl, ?_⟩⟩
    have e : (!decide (V.int (speedAt ps ms t) = V.int 0)) = decide (speedAt ps ms t ≠ 0) := by
      by_cases z : speedAt ps ms t = 0
      · rw [z]
        rfl
      · have z2 : ¬ V.int (speedAt ps ms t) = V.int 0 := fun q => z (by injection q)
        rw [decide_eq_false z2, decide_eq_true z]
        rfl
    rw [e]
    exact k
end

/-! ### a law's own speed at a moment -/
theorem find_at {p : Int × Int → Bool} : ∀ {ms : List (Int × Int)} {i : Nat} {m : Int × Int}, ms[i]? = some m → (ms.take i).find? p = none → p m = true → ms.find? p = some m
  | [], i, m, h, _, _ => by simp at h
  | a :: ms, 0, m, h, _, g => by
    obtain rfl := Option.some.inj h
    rw [List.find?_cons, g]
  | a :: ms, i + 1, m, h, f, g => by
    rw [List.take_succ_cons, List.find?_cons] at f
    rw [List.find?_cons]
    cases e : p a with
    | true =>
      rw [e] at f
      cases f
    | false =>
      rw [e] at f
      exact find_at (ms := ms) (i := i) h f g
theorem find_more {p : Int × Int → Bool} {ms : List (Int × Int)} {i : Nat} {m : Int × Int} (h : ms[i]? = some m) (f : (ms.take i).find? p = none) (g : p m = false) : (ms.take (i + 1)).find? p = none := by
  rw [List.take_add_one, h, List.find?_append, f]
  show (List.find? p [m]) = none
  rw [List.find?_cons, g]
  rfl
theorem speed_hit {ps : List Int} {ms : List (Int × Int)} {t : Int} {m : Int × Int} (h : (ms.find? fun m => decide (m.1 = t)) = some m) : speedAt ps ms t = m.2 := by
  unfold speedAt
  rw [h]
  rfl
theorem speed_miss {ps : List Int} {ms : List (Int × Int)} {t : Int} (h : (ms.find? fun m => decide (m.1 = t)) = none) : speedAt ps ms t = paceOf ps t := by
  unfold speedAt
  rw [h]
  rfl
theorem speed_real {ps : List Int} : ∀ {ms : List (Int × Int)} {t : Int}, (ms.Pairwise fun a b => a.1 < b.1) → speedAt ps (realOf ps ms) t = speedAt ps ms t
  | [], t, _ => rfl
  | m :: ms, t, h => by
    have h2 := List.pairwise_cons.mp h
    have ih := speed_real (ps := ps) (ms := ms) (t := t) h2.2
    by_cases e : m.1 = t
    · have hit : ((m :: ms).find? fun m => decide (m.1 = t)) = some m := by rw [List.find?_cons, decide_eq_true e]
      rw [speed_hit hit]
      by_cases c : m.2 = paceOf ps m.1
      · have er : realOf ps (m :: ms) = realOf ps ms := by unfold realOf; simp [c]
        rw [er, ih, speed_miss, c, e]
        refine List.find?_eq_none.mpr fun m' hm' e' => ?_
        have := h2.1 m' hm'
        have e2 : m'.1 = t := by simpa using e'
        omega
      · have er : realOf ps (m :: ms) = m :: realOf ps ms := by unfold realOf; simp [c]
        rw [er]
        exact speed_hit (by rw [List.find?_cons, decide_eq_true e])
    · have miss : ∀ l : List (Int × Int), speedAt ps (m :: l) t = speedAt ps l t := fun l => by
        unfold speedAt
        rw [List.find?_cons, decide_eq_false e]
      rw [miss]
      by_cases c : m.2 = paceOf ps m.1
      · have er : realOf ps (m :: ms) = realOf ps ms := by unfold realOf; simp [c]
        rw [er]
        exact ih
      · have er : realOf ps (m :: ms) = m :: realOf ps ms := by unfold realOf; simp [c]
        rw [er, miss]
        exact ih
theorem pace_in {ps : List Int} {t : Int} (h : 0 < ps.length) : paceOf ps t ∈ ps := by
  have h0 := Int.emod_nonneg t (show (ps.length : Int) ≠ 0 by omega)
  have h1 := Int.emod_lt_of_pos t (show (0 : Int) < ps.length by omega)
  obtain ⟨v, hv, e, _⟩ := atI_ints h0 h1
  unfold paceOf
  rw [List.getD_eq_getElem?_getD, e]
  exact hv
theorem speed_lo {ps : List Int} {ms : List (Int × Int)} (hp : Paces ps) (fit : Fit ms) (t : Int) : 0 ≤ speedAt ps ms t ∧ speedAt ps ms t ≤ 3 := by
  cases e : ms.find? fun m => decide (m.1 = t) with
  | none =>
    rw [speed_miss e]
    exact hp.lo _ (pace_in hp.len0)
  | some m =>
    rw [speed_hit e]
    exact fit.val m (List.mem_of_find?_eq_some e)

def spPace : Sp := fun vs H Q _ => ∃ (a b : Addr) (ps : List Int) (ts : List Addr) (ms : List (Int × Int)) (t : Int), vs = [.ref a, .ref b, .int t] ∧ H a = some (.lst (ps.map V.int)) ∧ H b = some (.lst (ts.map V.ref)) ∧ Tups H ts ms ∧ 0 < ps.length ∧
  Q (.int (speedAt ps ms t)) H
section
variable {P : Program} {w : World} {K : PySem.W.Frag} {mg : Str → Option Value} {base : Heap}
theorem scPace : FnScope ["paces", "marks", "at", "spot", "pace"] ["paces", "marks", "at"] (defScope sPace) := ⟨rfl, rfl, rfl, by decide +kernel, rfl, by decide +kernel, by decide +kernel⟩
theorem ok_pace {f : Addr} {fd : FuncData} (F : Fun K "_law_pace" "_law_pace" sPace f fd) (T : Blt mg) : FnOk P w K mg base CX0 1 f fd ["paces", "marks", "at"] spPace := by
  refine F.ok scPace (fun vs H Q E h => ?_) (fun cdv A outer s H vs Q E hr h => ?_)
  · obtain ⟨a, b, ps, ts, ms, t, rfl, _⟩ := h
    rfl
  · obtain ⟨a, b, ps, ts, ms, t, rfl, ha, hb, tp, l0, k⟩ := h
    refine ⟨_, pss_cons (ps_for PassesOwn.never rfl (pi_list (pv 1)) (pg_tup rfl (pgs_cons (pg_name (i := 3) scPace.nd rfl (.inl rfl)) (pgs_cons (pg_name (i := 4) scPace.nd rfl (.inl rfl)) pgs_nil)))
        (pss_one (ps_if (pt_cmpR op_eq (pv 3) (pv 2) (nomark _)) (pss_one (ps_ret (pv 4))) pss_nil)))
      (pss_one (ps_ret (pe_ix ix_list (pv 0) (pe_op op_mod (pe_callTy call_int1 (by rfl) T.int (by decide +kernel) (pa_cons (pv 2) pa_nil)) (pe_callB call_len_seq (by rfl) T.len PySem.boot_len (pa_cons (pv 0) pa_nil))) (fun _ _ => rfl)))), ?_⟩
    have tl := tp.len
    refine ⟨_, rfl, b, rfl, ⟨_, SqL.of hb⟩, for_list (K := K) (a := b) (xs := ts.map V.ref) (fun i σ J => J = H ∧ (∃ y3 y4 : Option V, σ = [some (.ref a), some (.ref b), some (.int t), y3, y4]) ∧ ((ms.take i).find? fun m => decide (m.1 = t)) = none)
      ⟨rfl, ⟨none, none, rfl⟩, rfl⟩ (fun i σ J _ h => by rw [h.1]; exact SqL.of hb) ?_ ?_⟩
    · rintro i y σ J hi ⟨rfl, ⟨y3, y4, rfl⟩, hf⟩
      have hi' : i < ts.length := by
        have := (List.getElem?_eq_some_iff.mp hi).1
        simpa using this
      rw [List.getElem?_map, List.getElem?_eq_getElem hi'] at hi
      obtain rfl := Option.some.inj hi
      obtain ⟨m, hm, hm2⟩ := tp.get (List.getElem?_eq_getElem hi')
      refine ⟨_, _, rfl, .inl (.inl hm2), rfl, _, _, rfl, _, [], rfl, rfl, _, rfl, _, rfl, rfl, _, rfl, ite2 (fun g => ?_) (fun g => ?_)⟩
      · have e : m.1 = t := by
          have := of_decide_eq_true g
          injection this
        refine ⟨_, rfl, ?_⟩
        rw [speed_hit (find_at hm hf (decide_eq_true e))] at k
        exact k
      · have e : ¬ m.1 = t := fun q => g (decide_eq_true (by rw [q]))
        exact ⟨rfl, ⟨_, _, rfl⟩, find_more hm hf (decide_eq_false e)⟩
    · rintro σ J ⟨rfl, ⟨y3, y4, rfl⟩, hf⟩
      rw [List.length_map, tl, List.take_length] at hf
      have hz : (((ps.map V.int).length : Nat) : Int) = ps.length := by rw [List.length_map]
      rw [speed_miss hf] at k
      refine ⟨_, rfl, _, rfl, .inl ⟨_, rfl, _, rfl, a, _, rfl, .inl (SqL.of ha), _, _, rfl, rfl, ?_, a, _, _, .int (paceOf ps t), rfl, rfl, SqL.of ha, ?_, k⟩⟩
      · rw [hz]
        omega
      · rw [hz]
        exact atI_pace l0
end

/-! ### the law's own loop -/
def Scr (K : PySem.W.Frag) (H : Hp) (a : Addr) (xs : List V) : Prop := (∃ o, H a = some (.frz o (.lst xs))) ∨ ∀ J : Hp, SqL K J a xs
theorem Scr.seq {K : PySem.W.Frag} {H : Hp} {a : Addr} {xs : List V} (h : Scr K H a xs) : SqL K H a xs := by
  rcases h with ⟨o, h⟩ | h
  · exact .inl (.inr ⟨o, h⟩)
  · exact h H
theorem Scr.of {K : PySem.W.Frag} {H : Hp} {a : Addr} {xs : List V} (o : Only H) (h : SqL K H a xs) : Scr K H a xs := by
  rcases h with (h | ⟨u, h⟩) | h
  · rcases o a with z | ⟨u, ys, z⟩
    · rw [z] at h
      cases h
    · rw [z] at h
      cases h
  · exact .inl ⟨u, h⟩
  · exact .inr fun J => .inr h
theorem Scr.same {K : PySem.W.Frag} {H H' : Hp} {a : Addr} {xs : List V} (h : Scr K H a xs) (f : Same H H') : Scr K H' a xs := by
  rcases h with ⟨o, h⟩ | h
  · exact .inl ⟨o, f _ _ h⟩
  · exact .inr h
theorem Scr.fr {K : PySem.W.Frag} {H H' : Hp} {a p : Addr} {n : Nat} {xs : List V} (h : Scr K H a xs) (g : Well H p n) (f : Fr p H H') : Scr K H' a xs := by
  rcases h with ⟨o, h⟩ | h
  · refine .inl ⟨o, f _ _ h fun z => ?_⟩
    obtain ⟨x, y, u, e, _⟩ := g
    rw [z, e] at h
    cases h
  · exact .inr h
def spFits : Sp := fun vs H Q _ => ∃ (p : Addr) (n : Nat), vs = [.ref p] ∧ Well H p n ∧ n ≤ 10 ^ 6 ∧ ∀ H', Fr p H H' → Well H' p (n + 1000) → Q (.bl true) H'
def spLaw (K : PySem.W.Frag) : Sp := fun vs H Q _ => ∃ (a : Addr) (ns : List Int), vs = [.ref a] ∧ Scr K H a (ns.map V.int) ∧ ns.length ≤ 63 ∧ ∀ H', Q (.bl true) H'
/-- the turns of the inner loop -/
def turns : Nat := match defBody sLaw with
  | .For _ _ (_ :: .For _ (.Call _ (.Constant (.int n) _ _ :: _) _ _) _ _ _ :: _) _ _ :: _ => n.toNat
  | _ => 0
section
variable {P : Program} {w : World} {K : PySem.W.Frag} {mg : Str → Option Value} {base : Heap}
theorem scLaw : FnScope ["script", "place", "well", "turn"] ["script"] (defScope sLaw) := ⟨rfl, rfl, rfl, by decide +kernel, rfl, by decide +kernel, by decide +kernel⟩
theorem ok_law {f fW fF : Addr} {fd fdW fdF : FuncData} {k : Nat} (hk : 1 ≤ k) (F : Fun K "law" "law" sLaw f fd) (T : Blt mg) (W : At P w K mg base 1 "_law_well" ["script", "place"] (spWell K) fW fdW)
    (G : FnG P w K mg base k fF fdF ["well"] spFits) (gF : mg "_law_fits" = some (.ref fF)) (kF : PySem.W.keepIn K (.ref fF) = true) (bF : Binds K fdF ["well"] []) : FnG P w K mg base (k + 1) f fd ["script"] (spLaw K) := by
  refine okG F scLaw (fun vs H Q E h => ?_) (fun cdv A outer s H vs Q E hgd hr h => ?_)
  · obtain ⟨a, ns, rfl, _⟩ := h
    rfl
  · obtain ⟨a, ns, rfl, hS, hl, q⟩ := h
    have hr1 : Room 1 _ := hr.mono hk
    refine ⟨_, pss_cons (ps_for PassesOwn.never rfl (pi_range1 (by rfl) T.range (pa_cons (pe_callB (call_max2 rfl) (by rfl) T.max (by decide +kernel) (pa_cons pe_int (pa_cons (pe_callB (call_min2 rfl) (by rfl) T.min (by decide +kernel)
          (pa_cons pe_int (pa_cons (pe_callB call_len_seq (by rfl) T.len PySem.boot_len (pa_cons (pv 0) pa_nil)) pa_nil))) pa_nil))) pa_nil)) (pg_name (i := 1) scLaw.nd rfl (.inl rfl))
        (pss_cons (ps_set (i := 2) scLaw.nd rfl (.inl rfl) (pe_call W.ok hr1 (by rfl) W.at_ W.kp W.bi .nil pass0 (pa_cons (pv 0) (pa_cons (pv 1) pa_nil))))
        (pss_one (ps_for PassesOwn.never rfl (pi_range1 (by rfl) T.range (pa_cons pe_int pa_nil)) (pg_name (i := 3) scLaw.nd rfl (.inl rfl))
          (pss_one (ps_if (pt_not (pt_val (pe_callG G hgd hr (by rfl) gF kF bF (pa_cons (pv 2) pa_nil)))) (pss_one (ps_ret pe_bl)) pss_nil))))))
      (pss_one (ps_ret pe_bl)), ?_⟩
    refine ⟨_, rfl, a, _, rfl, .inl hS.seq, 32, _, rfl, 1, _, rfl, ?_⟩
    generalize hm : (if (if (((ns.map V.int).length : Nat) : Int) < 32 then (((ns.map V.int).length : Nat) : Int) else 32) > 1 then (if (((ns.map V.int).length : Nat) : Int) < 32 then (((ns.map V.int).length : Nat) : Int) else 32) else 1) = m
    have m1 : 1 ≤ m ∧ m ≤ 63 := by
      rw [← hm]
      split <;> split <;> omega
    refine ⟨m, rfl, by omega, by omega, for_range (lo := 0) (n := m.toNat) (fun i σ J => ∃ y1 y2 y3 : Option V, σ = [some (.ref a), y1, y2, y3] ∧ Scr K J a (ns.map V.int)) ⟨none, none, none, rfl, hS⟩ ?_ ?_⟩
    · rintro i σ J hi ⟨y1, y2, y3, rfl, hJ⟩
      refine ⟨_, rfl, _, rfl, ⟨a, ns, _, rfl, hJ.seq, hl, by omega, by omega, fun p J1 np s1 w1 => ?_⟩⟩
      refine ⟨turns, rfl, by decide +kernel, by decide +kernel, for_range (lo := 0) (n := turns) (fun j σ J2 => ∃ y3 : Option V, σ = [some (.ref a), some (.int (0 + i)), some (.ref p), y3] ∧ Scr K J2 a (ns.map V.int) ∧ Well J2 p (j * 1000)) ⟨_, rfl, hJ.same s1, w1.mono (by omega)⟩ ?_ ?_⟩
      · rintro j σ J2 hj ⟨y3, rfl, hJ2, w2⟩
        have tb : turns ≤ 100 := by decide +kernel
        refine ⟨_, rfl, ⟨p, _, rfl, w2, by omega, fun J3 f3 w3 => ⟨_, rfl, ?_⟩⟩⟩
        exact ⟨_, rfl, hJ2.fr w2 f3, w3.mono (by omega)⟩
      · rintro σ J2 ⟨y3, rfl, hJ2, w2⟩
        exact ⟨_, _, _, rfl, hJ2⟩
    · rintro σ J ⟨y1, y2, y3, rfl, hJ⟩
      exact q J
end

/-! ### f(k = v, ..), keywords alone -/
section
variable {X : Cx} {k : Nat} {f : Addr} {fd : FuncData} {ps ks : List Str} {sp : Sp} {x : Str} {p pos : Pos} {kws : List Keyword} {tk : TA} {g : List Value → List Value → List Value} {gV : List V → List V → List V}
theorem pe_callKw (F : FnOk X.prog X.w X.K X.mg X.base CX0 k f fd ps sp) (hr : Room k X.A) (hg : Gl X x) (hm : X.mg x = some (.ref f)) (hk : PySem.W.keepIn X.K (.ref f) = true) (hb : KBn X.K fd ps 0 ks g gV) (hkw : PK X kws tk)
    (hall : (backToKw pos (keywordEach kws X.env)).all (·.1.isSome) = true := by rfl) (hks : (backToKw pos (keywordEach kws X.env)).filterMap (·.1) = ks := by rfl) (hdb : (x == ("__debug__" : Str)) = false := by decide)
    (hpl : ((backTo pos (starEach [] X.env)).any (·.1) || (backToKw pos (keywordEach kws X.env)).any (·.1.isNone)) = false := by rfl) :
    PE X (.Call (.Name x p) [] kws pos) (fun σ H Q => tk σ H fun zs H2 => zs.length = ks.length ∧ sp (gV [] zs) H2 Q E0) := by
  refine ⟨fun pins s σ H Q I h => ?_⟩
  refine wpAny_Call_Name_kw (ld_glob I hg hm ?_ hdb)
  refine PySem.W.callWith_KW0 (h₀ := X.base) I.ok.mod.kin hk hall ?_ hpl
  refine thn (hkw.run pos pins s σ H _ I h) fun ws s2 hh => ?_
  obtain ⟨zs, H2, I2, rz, l2, q2⟩ := hh
  refine ⟨I2.kIn, ?_⟩
  rw [hks]
  have lw : ws.length = ks.length := rz.length.symm.trans l2
  refine wpAny_call (codeAny_mono (F.run X.A X.stack s2 H2 ⟨[], ks.zip ws⟩ (g [] ws) (gV [] zs) Q E0 hr I2.env0 (hb.to s2 [] ws I2.kIn rfl lw) (hb.rel .nil rz) q2) fun res s3 hq => ?_)
  rcases res with er | fl
  · exact False.elim hq
  · rcases fl with _ | _ | _ | u
    iterate 3 exact False.elim hq
    exact I2.after hq
end
theorem vals_getD {vs : List V} {us : List Value} (r : Vals vs us) (i : Nat) : L2.RelV (vs.getD i V.non) (us.getD i Value.none) := by
  induction r generalizing i with
  | nil => cases i <;> exact (rfl : L2.RelV V.non Value.none)
  | cons a _ ih =>
    cases i with
    | zero => exact a
    | succ i => exact ih i
/-- three keywords: the parameters' places among them -/
def gK3 {α : Type} (z : α) (a b c : Nat) : List α → List α → List α := fun _ ws => [ws.getD a z, ws.getD b z, ws.getD c z]
theorem gK3_rel {a b c : Nat} {vs : List V} {us : List Value} {zs : List V} {ws : List Value} (_ : Vals vs us) (r : Vals zs ws) : Vals (gK3 V.non a b c vs zs) (gK3 Value.none a b c us ws) :=
  .cons (vals_getD r a) (.cons (vals_getD r b) (.cons (vals_getD r c) .nil))

/-! ### the mathematics of work -/
def tally (ps : List Int) (t : Int) : Int := t / ps.length * ps.sum + (ps.take (t % ps.length).toNat).sum
def gain (ps : List Int) (ms : List (Int × Int)) (lo hi : Int) : Int := ((ms.filter fun m => decide (lo ≤ m.1 ∧ m.1 < hi)).map fun m => m.2 - paceOf ps m.1).sum
def workOf (ps : List Int) (ms : List (Int × Int)) (lo hi : Int) : Int := tally ps hi - tally ps lo + gain ps ms lo hi
theorem take_sum_succ : ∀ {xs : List Int} {i : Nat} {v : Int}, xs[i]? = some v → (xs.take (i + 1)).sum = (xs.take i).sum + v
  | [], i, v, h => by simp at h
  | x :: xs, 0, v, h => by
    obtain rfl := Option.some.inj h
    simp
  | x :: xs, i + 1, v, h => by
    have ih := take_sum_succ (xs := xs) (i := i) h
    rw [List.take_succ_cons, List.take_succ_cons, List.sum_cons, List.sum_cons, ih]
    omega
theorem tally_step {ps : List Int} (h : 0 < ps.length) (t : Int) : tally ps (t + 1) = tally ps t + paceOf ps t := by
  have hn : (0 : Int) < ps.length := by omega
  have h0 := Int.emod_nonneg t (show (ps.length : Int) ≠ 0 by omega)
  have h1 := Int.emod_lt_of_pos t hn
  have hd := Int.mul_ediv_add_emod t ps.length
  obtain ⟨v, _, hv, _⟩ := atI_ints (xs := ps) h0 h1
  have hp : paceOf ps t = v := by
    unfold paceOf
    rw [List.getD_eq_getElem?_getD, hv]
    rfl
  have hs := take_sum_succ hv
  unfold tally
  rw [hp]
  generalize hq : t / ps.length = q at *
  generalize hr : t % ps.length = r at *
  by_cases c : r + 1 < ps.length
  · have e1 : (t + 1) / (ps.length : Int) = q := by
      rw [← hd]
      rw [show (ps.length : Int) * q + r + 1 = (r + 1) + (ps.length : Int) * q by omega, Int.add_mul_ediv_left _ _ (by omega), Int.ediv_eq_zero_of_lt (by omega) c]
      omega
    have e2 : (t + 1) % (ps.length : Int) = r + 1 := by
      rw [← hd]
      rw [show (ps.length : Int) * q + r + 1 = (r + 1) + (ps.length : Int) * q by omega, Int.add_mul_emod_self_left, Int.emod_eq_of_lt (by omega) c]
    rw [e1, e2, show (r + 1).toNat = r.toNat + 1 by omega, hs]
    omega
  · have er : r + 1 = ps.length := by omega
    have e1 : (t + 1) / (ps.length : Int) = q + 1 := by
      rw [← hd]
      rw [show (ps.length : Int) * q + r + 1 = (ps.length : Int) * (q + 1) by rw [Int.mul_add]; omega, Int.mul_ediv_cancel_left _ (by omega)]
    have e2 : (t + 1) % (ps.length : Int) = 0 := by
      rw [← hd]
      rw [show (ps.length : Int) * q + r + 1 = (ps.length : Int) * (q + 1) by rw [Int.mul_add]; omega, Int.mul_emod_right]
    have e3 : (ps.take (r.toNat + 1)).sum = ps.sum := by rw [List.take_of_length_le (by omega)]
    rw [e1, e2, Int.add_mul]
    have : (List.take (0 : Int).toNat ps).sum = 0 := rfl
    rw [this]
    omega
theorem gain_out {ps : List Int} {ms : List (Int × Int)} {lo hi t : Int} (h : ∀ m ∈ ms, t < m.1) (g : hi ≤ t + 1) : gain ps ms lo hi = 0 := by
  unfold gain
  rw [List.filter_eq_nil_iff.mpr fun m hm => by
    have := h m hm
    simp only [decide_eq_true_eq]
    omega]
  rfl
theorem gain_cons (ps : List Int) (m : Int × Int) (ms : List (Int × Int)) (lo hi : Int) : gain ps (m :: ms) lo hi = (if lo ≤ m.1 ∧ m.1 < hi then m.2 - paceOf ps m.1 else 0) + gain ps ms lo hi := by
  unfold gain
  rw [List.filter_cons]
  by_cases c : lo ≤ m.1 ∧ m.1 < hi
  · rw [if_pos (decide_eq_true c), if_pos c, List.map_cons, List.sum_cons]
  · rw [if_neg (by simpa using c), if_neg c]
    omega
theorem gain_step {ps : List Int} : ∀ {ms : List (Int × Int)} {lo hi : Int}, (ms.Pairwise fun a b => a.1 < b.1) → lo ≤ hi → gain ps ms lo (hi + 1) = gain ps ms lo hi + (speedAt ps ms hi - paceOf ps hi)
  | [], lo, hi, _, _ => by
    have : speedAt ps [] hi = paceOf ps hi := rfl
    rw [this]
    have e : gain ps [] lo (hi + 1) = gain ps [] lo hi := rfl
    omega
  | m :: ms, lo, hi, h, g => by
    have h2 := List.pairwise_cons.mp h
    have ih := gain_step (ps := ps) (ms := ms) (lo := lo) (hi := hi) h2.2 g
    rw [gain_cons, gain_cons, ih]
    by_cases e : m.1 = hi
    · have hit : ((m :: ms).find? fun m => decide (m.1 = hi)) = some m := by rw [List.find?_cons, decide_eq_true e]
      have miss : (ms.find? fun m => decide (m.1 = hi)) = none := List.find?_eq_none.mpr fun m' hm' e' => by
        have := h2.1 m' hm'
        have e2 : m'.1 = hi := by simpa using e'
        omega
      rw [speed_hit hit, speed_miss miss, if_pos (by omega), if_neg (by omega), e]
      omega
    · have miss : speedAt ps (m :: ms) hi = speedAt ps ms hi := by
        unfold speedAt
        rw [List.find?_cons, decide_eq_false e]
      rw [miss]
      by_cases c : lo ≤ m.1 ∧ m.1 < hi
      · rw [if_pos (by omega), if_pos c]
        omega
      · rw [if_neg (by omega), if_neg c]
        omega
/-- the speeds of k moments from lo on -/
def sumSp (ps : List Int) (ms : List (Int × Int)) (lo : Int) : Nat → Int
  | 0 => 0
  | k + 1 => sumSp ps ms lo k + speedAt ps ms (lo + k)
theorem gain_nil (ps : List Int) (ms : List (Int × Int)) (lo : Int) : gain ps ms lo lo = 0 := by
  unfold gain
  rw [List.filter_eq_nil_iff.mpr fun m hm => by
    simp only [decide_eq_true_eq]
    omega]
  rfl
theorem work_sum {ps : List Int} {ms : List (Int × Int)} (h : 0 < ps.length) (asc : ms.Pairwise fun a b => a.1 < b.1) (lo : Int) : ∀ k : Nat, workOf ps ms lo (lo + k) = sumSp ps ms lo k
  | 0 => by
    unfold workOf
    rw [show lo + ((0 : Nat) : Int) = lo by omega, gain_nil]
    show tally ps lo - tally ps lo + 0 = 0
    omega
  | k + 1 => by
    have ih := work_sum h asc lo k
    unfold workOf at ih ⊢
    have e : lo + ((k + 1 : Nat) : Int) = (lo + k) + 1 := by omega
    rw [e, tally_step h, gain_step asc (by omega)]
    show _ = sumSp ps ms lo k + speedAt ps ms (lo + k)
    omega
theorem sumSp_add (ps : List Int) (ms : List (Int × Int)) (lo : Int) (j : Nat) : ∀ k : Nat, sumSp ps ms lo (j + k) = sumSp ps ms lo j + sumSp ps ms (lo + j) k
  | 0 => by
    show sumSp ps ms lo j = sumSp ps ms lo j + 0
    omega
  | k + 1 => by
    have ih := sumSp_add ps ms lo j k
    show sumSp ps ms lo (j + k) + speedAt ps ms (lo + (j + k : Nat)) = sumSp ps ms lo j + (sumSp ps ms (lo + j) k + speedAt ps ms (lo + j + k))
    rw [ih, show lo + ((j + k : Nat) : Int) = lo + j + k by omega]
    omega
theorem sumSp_real {ps : List Int} {ms : List (Int × Int)} (asc : ms.Pairwise fun a b => a.1 < b.1) (lo : Int) : ∀ k : Nat, sumSp ps (realOf ps ms) lo k = sumSp ps ms lo k
  | 0 => rfl
  | k + 1 => by
    show sumSp ps (realOf ps ms) lo k + speedAt ps (realOf ps ms) (lo + k) = _
    rw [sumSp_real asc lo k, speed_real asc]
    rfl
theorem real_asc {ps : List Int} {ms : List (Int × Int)} (asc : ms.Pairwise fun a b => a.1 < b.1) : (realOf ps ms).Pairwise fun a b => a.1 < b.1 := asc.filter _
theorem sumSp_le {ps : List Int} {ms : List (Int × Int)} (hp : Paces ps) (fit : Fit ms) (lo : Int) : ∀ k : Nat, 0 ≤ sumSp ps ms lo k ∧ sumSp ps ms lo k ≤ 3 * k
  | 0 => ⟨Int.le_refl _, Int.le_refl _⟩
  | k + 1 => by
    have ih := sumSp_le hp fit lo k
    have := speed_lo hp fit (lo + k)
    show 0 ≤ sumSp ps ms lo k + speedAt ps ms (lo + k) ∧ sumSp ps ms lo k + speedAt ps ms (lo + k) ≤ 3 * ((k + 1 : Nat) : Int)
    omega

/-! ### the program's work -/
theorem cut_pre (xs : List V) {r : Int} (h : 0 ≤ r) : cutV xs none (some r) = xs.take r.toNat := by
  obtain ⟨k, rfl⟩ : ∃ k : Nat, r = (k : Int) := ⟨r.toNat, by omega⟩
  unfold cutV
  rw [HT.sIx_nat, HT.sIx_none, Nat.sub_zero, List.drop_zero]
  rw [List.take_eq_take_iff]
  simp only [Int.toNat_natCast]
  omega
structure Blt2 (mg : Str → Option Value) : Prop where
  sum : mg "sum" = none
  divmod : mg "divmod" = none
def spTally : Sp := fun vs H Q _ => ∃ (a : Addr) (ps : List Int) (t : Int), vs = [.ref a, .int t] ∧ H a = some (.lst (ps.map V.int)) ∧ Paces ps ∧ ∀ H', Same H H' → Q (.int (tally ps t)) H'
def spWWork : Sp := fun vs H Q _ => ∃ (a : Addr) (ps : List Int) (lo hi : Int), vs = [.ref a, .int lo, .int hi] ∧ H a = some (.lst (ps.map V.int)) ∧ Paces ps ∧ ∀ H', Same H H' → Q (.int (tally ps hi - tally ps lo)) H'
theorem sum_lo : ∀ {xs : List Int}, (∀ v ∈ xs, 0 ≤ v ∧ v ≤ 3) → 0 ≤ xs.sum ∧ xs.sum ≤ 3 * xs.length
  | [], _ => ⟨Int.le_refl _, Int.le_refl _⟩
  | x :: xs, h => by
    have ih := sum_lo (xs := xs) fun v hv => h v (List.mem_cons_of_mem _ hv)
    have := h x List.mem_cons_self
    rw [List.sum_cons, List.length_cons]
    omega
section
variable {P : Program} {w : World} {K : PySem.W.Frag} {mg : Str → Option Value} {base : Heap}
theorem scTally : FnScope ["speeds", "moment", "weeks", "rest"] ["speeds", "moment"] (defScope sTally) := ⟨rfl, rfl, rfl, by decide +kernel, rfl, by decide +kernel, by decide +kernel⟩
theorem ok_tally {f : Addr} {fd : FuncData} (F : Fun K "weekly_tally" "weekly_tally" sTally f fd) (T : Blt mg) (T2 : Blt2 mg) : FnOk P w K mg base CX0 1 f fd ["speeds", "moment"] spTally := by
  refine F.ok scTally (fun vs H Q E h => ?_) (fun cdv A outer s H vs Q E hr h => ?_)
  · obtain ⟨a, ps, t, rfl, _⟩ := h
    rfl
  · obtain ⟨a, ps, t, rfl, ha, hp, k⟩ := h
    refine ⟨_, pss_cons (ps_asg (pe_callB call_divmod (by rfl) T2.divmod (by decide +kernel) (pa_cons (pv 1) (pa_cons (pe_callB call_len_seq (by rfl) T.len PySem.boot_len (pa_cons (pv 0) pa_nil)) pa_nil))) (pg_tup rfl (pgs_cons (pg_name (i := 2) scTally.nd rfl (.inl rfl)) (pgs_cons (pg_name (i := 3) scTally.nd rfl (.inl rfl)) pgs_nil))))
      (pss_one (ps_ret (pe_op op_add (pe_op op_mul (pv 2) (pe_callB (cr_sum rfl) (by rfl) T2.sum (by decide +kernel) (pa_cons (pv 0) pa_nil))) (pe_callB (cr_sum rfl) (by rfl) T2.sum (by decide +kernel) (pa_cons (pe_slice sl_list (pv 0) po_none (po_some (pv 3))) pa_nil))))), ?_⟩
    have l0 := hp.len0
    have l1 := hp.len1
    have hz : (((ps.map V.int).length : Nat) : Int) = ps.length := by rw [List.length_map]
    have r0 := Int.emod_nonneg t (show (ps.length : Int) ≠ 0 by omega)
    refine ⟨_, rfl, _, rfl, a, _, rfl, .inl (SqL.of ha), t, (ps.length : Int), by rw [hz], ⟨by omega, by omega⟩, fun u nu => ⟨u, _, rfl, .inl (.inl upd_same), rfl, _, _, rfl, _, [], rfl, rfl, ?_⟩⟩
    have s1 := same_new (o := .tup [.int (t / ps.length), .int (t % ps.length)]) nu
    have hs := sum_lo hp.lo
    refine ⟨_, rfl, _, rfl, a, ps, rfl, SqL.of (s1 _ _ ha), _, _, rfl, rfl, .inr ⟨by omega, by omega⟩, _, rfl, _, rfl, _, rfl, a, _, rfl, SqL.of (s1 _ _ ha), fun c nc => ?_⟩
    rw [cut_pre _ r0, ← List.map_take]
    refine ⟨c, _, rfl, SqL.of upd_same, _, _, rfl, rfl, ?_⟩
    exact k _ (s1.trans (same_new nc))
theorem scWWork : FnScope ["speeds", "begin", "end"] ["speeds", "begin", "end"] (defScope sWWork) := ⟨rfl, rfl, rfl, by decide +kernel, rfl, by decide +kernel, by decide +kernel⟩
theorem ok_wwork {f fT : Addr} {fd dT : FuncData} (F : Fun K "weekly_work" "weekly_work" sWWork f fd) (Ta : At P w K mg base 1 "weekly_tally" ["speeds", "moment"] spTally fT dT) : FnOk P w K mg base CX0 2 f fd ["speeds", "begin", "end"] spWWork := by
  refine F.ok scWWork (fun vs H Q E h => ?_) (fun cdv A outer s H vs Q E hr h => ?_)
  · obtain ⟨a, ps, lo, hi, rfl, _⟩ := h
    rfl
  · obtain ⟨a, ps, lo, hi, rfl, ha, hp, k⟩ := h
    refine ⟨_, pss_one (ps_ret (pe_op op_sub (pe_call Ta.ok hr (by rfl) Ta.at_ Ta.kp Ta.bi .nil pass0 (pa_cons (pv 0) (pa_cons (pv 2) pa_nil))) (pe_call Ta.ok hr (by rfl) Ta.at_ Ta.kp Ta.bi .nil pass0 (pa_cons (pv 0) (pa_cons (pv 1) pa_nil))))), ?_⟩
    refine ⟨_, rfl, _, rfl, ⟨a, ps, hi, rfl, ha, hp, fun H1 s1 => ?_⟩⟩
    refine ⟨_, rfl, _, rfl, ⟨a, ps, lo, rfl, s1 _ _ ha, hp, fun H2 s2 => ⟨_, _, rfl, rfl, ?_⟩⟩⟩
    exact k H2 (s1.trans s2)
end

def spSpan : Sp := fun vs H Q _ => ∃ lo hi : Int, vs = [.int lo, .int hi] ∧ lo ≤ hi ∧ Q .non H
def spWork (C : Addr) : Sp := fun vs H Q _ => ∃ (x l d : Addr) (ps : List Int) (ms : List (Int × Int)) (lo hi : Int), vs = [.ref x, .int lo, .int hi] ∧ CalAt C H x l d ps ms ∧ Paces ps ∧ ms.length ≤ 1000 ∧ lo ≤ hi ∧
  ∀ H', Same H H' → Q (.int (workOf ps ms lo hi)) H'
section
variable {P : Program} {w : World} {K : PySem.W.Frag} {mg : Str → Option Value} {base : Heap}
theorem scSpan : FnScope ["begin", "end"] ["begin", "end"] (defScope sSpan) := ⟨rfl, rfl, rfl, by decide +kernel, rfl, by decide +kernel, by decide +kernel⟩
theorem ok_span {f : Addr} {fd : FuncData} (F : Fun K "check_span" "check_span" sSpan f fd) : FnOk P w K mg base CX0 1 f fd ["begin", "end"] spSpan := by
  refine F.ok scSpan (fun vs H Q E h => ?_) (fun cdv A outer s H vs Q E hr h => ?_)
  · obtain ⟨lo, hi, rfl, _⟩ := h
    rfl
  · obtain ⟨lo, hi, rfl, g, k⟩ := h
    refine ⟨_, pss_one (ps_if (pt_cmpR op_lt (pv 1) (pv 0) (nomark _)) (pss_one ps_never) pss_nil), ?_⟩
    refine ⟨_, rfl, _, rfl, _, _, rfl, rfl, _, rfl, ite2 (fun e => ?_) (fun _ => k)⟩
    have : hi < lo := of_decide_eq_true e
    omega
theorem scWork : FnScope ["calendar", "begin", "end", "speeds", "gains", "moment", "speed"] ["calendar", "begin", "end"] (defScope sWork) := ⟨rfl, rfl, rfl, by decide +kernel, rfl, by decide +kernel, by decide +kernel⟩
theorem ok_work {f fS fW C p2 g2 p3 g3 : Addr} {fd dS dW d2 d3 : FuncData} (F : Fun K "work" "work" sWork f fd) (T : Blt mg) (T2 : Blt2 mg) (Z : Cal K mg C) (Sp : At P w K mg base 1 "check_span" ["begin", "end"] spSpan fS dS)
    (Ww : At P w K mg base 2 "weekly_work" ["speeds", "begin", "end"] spWWork fW dW) (W2 : Pp P w K mg base C "speeds" (spSpeeds C) p2 g2 d2) (W3 : Pp P w K mg base C "changes" (spChanges C) p3 g3 d3) :
    FnOk P w K mg base CX0 3 f fd ["calendar", "begin", "end"] (spWork C) := by
  refine F.ok scWork (fun vs H Q E h => ?_) (fun cdv A outer s H vs Q E hr h => ?_)
  · obtain ⟨x, l, d, ps, ms, lo, hi, rfl, _⟩ := h
    rfl
  · obtain ⟨x, l, d, ps, ms, lo, hi, rfl, cal, hp, ml, le, k⟩ := h
    have hr1 : Room 1 _ := hr.mono (by decide)
    refine ⟨_, pss_cons (ps_expr (pe_call Sp.ok hr1 (by rfl) Sp.at_ Sp.kp Sp.bi .nil pass0 (pa_cons (pv 1) (pa_cons (pv 2) pa_nil))))
      (pss_cons (ps_set (i := 3) scWork.nd rfl (.inr rfl) (pe_prop (pv 0) Z.cl W2.of W2.ok hr W2.bi .nil pass0 rfl))
      (pss_cons (ps_setLc (i := 4) (own := [("moment", 5), ("speed", 6)]) (g := gTup K 2 (gCons (gName 5) (gCons (gName 6) gNil))) rfl scWork.nd rfl rfl (sw_true rfl rfl rfl (by decide +kernel)) (pi_list (pe_prop (pv 0) Z.cl W3.of W3.ok hr W3.bi .nil pass0 rfl))
          (blkOk_by (N := ["calendar", "begin", "end", "speeds", "gains", "moment", "speed"]) (sc := defScope sWork) (by decide +kernel))
          (fun _ _ _ _ _ => pg_tup rfl (pgs_cons (pg_name (i := 5) scWork.nd rfl (.inl rfl)) (pgs_cons (pg_name (i := 6) scWork.nd rfl (.inl rfl)) pgs_nil)))
          (fun _ _ _ _ _ => pts_one (pt_chain op_le op_lt (pv 1) (pv 5) (pv 2)))
          (fun _ _ _ _ _ => pe_op op_sub (pv 6) (pe_ix (r := rIxL K) ix_list (pv 3) (pe_op op_mod (pv 5) (pe_callB (r := rLen K) call_len_seq (by rfl) T.len PySem.boot_len (pa_cons (pv 3) pa_nil))) (fun _ _ => rfl))))
      (pss_one (ps_ret (pe_op op_add (pe_call Ww.ok hr (by rfl) Ww.at_ Ww.kp Ww.bi .nil pass0 (pa_cons (pv 3) (pa_cons (pv 1) (pa_cons (pv 2) pa_nil)))) (pe_callB (cr_sum rfl) (by rfl) T2.sum (by decide +kernel) (pa_cons (pv 4) pa_nil))))))), ?_⟩
    obtain ⟨dx, hx⟩ := cal.ob
    have l0 := hp.len0
    refine ⟨_, rfl, _, rfl, ⟨lo, hi, rfl, le, ?_⟩⟩
    refine ⟨_, rfl, x, dx, _, rfl, hx, ⟨x, l, d, ps, ms, rfl, cal, fun q nq => ?_⟩⟩
    have s1 := same_new (o := .lst (ps.map V.int)) nq
    refine ⟨_, rfl, x, dx, _, rfl, s1 _ _ hx, ⟨x, l, d, ps, ms, rfl, cal.same s1, fun H2 b ts s2 nb nt bt hb tp => ?_⟩⟩
    have hq2 := s2 _ _ (upd_same (H := H) (a := q) (o := .lst (ps.map V.int)))
    have tl := tp.len
    have hz : (((ps.map V.int).length : Nat) : Int) = ps.length := by rw [List.length_map]
    refine ⟨b, rfl, ⟨_, SqL.of hb⟩, fun D hD => lc_list (K := K) (a := b) (xs := ts.map V.ref) (fun i J => J D = some (.lst ((((ms.take i).filter fun m => decide (lo ≤ m.1 ∧ m.1 < hi)).map fun m => m.2 - paceOf ps m.1).map V.int)) ∧ Same H2 J)
      ⟨upd_same, same_new hD⟩ (fun i J _ h => SqL.of (h.2 _ _ hb)) ?_ ?_⟩
    · rintro i y J hi' ⟨hJ, sJ⟩
      have hi2 : i < ts.length := by
        have := (List.getElem?_eq_some_iff.mp hi').1
        simpa using this
      rw [List.getElem?_map, List.getElem?_eq_getElem hi2] at hi'
      obtain rfl := Option.some.inj hi'
      obtain ⟨m, hm, hm2⟩ := (tp.same sJ).get (List.getElem?_eq_getElem hi2)
      have et : ms.take (i + 1) = ms.take i ++ [m] := by rw [List.take_add_one, hm]; rfl
      have hq3 := sJ _ _ hq2
      refine ⟨_, _, rfl, .inl (.inl hm2), rfl, _, _, rfl, _, [], rfl, rfl, rfl, ?_⟩
      have no : ¬ (lo ≤ m.1 ∧ m.1 < hi) → (((ms.take (i + 1)).filter fun m => decide (lo ≤ m.1 ∧ m.1 < hi)).map fun m => m.2 - paceOf ps m.1) = (((ms.take i).filter fun m => decide (lo ≤ m.1 ∧ m.1 < hi)).map fun m => m.2 - paceOf ps m.1) := fun c => by
        have : List.filter (fun m => decide (lo ≤ m.1 ∧ m.1 < hi)) [m] = [] := by simp only [List.filter_cons, decide_eq_false c, List.filter_nil]; rfl
        rw [et, List.filter_append, this, List.append_nil]
      refine ⟨_, rfl, _, rfl, _, _, rfl, rfl, _, rfl, ite2 (fun c1 => ?_) (fun c1 => ?_)⟩
      · refine ⟨_, rfl, _, _, rfl, rfl, _, rfl, ite2 (fun c2 => ?_) (fun c2 => ?_)⟩
        · have c : lo ≤ m.1 ∧ m.1 < hi := ⟨of_decide_eq_true c1, of_decide_eq_true c2⟩
          refine ⟨_, rfl, _, rfl, _, rfl, _, rfl, q, _, rfl, .inl (SqL.of hq3), _, _, rfl, rfl, by rw [hz]; omega, q, _, _, .int (paceOf ps m.1), rfl, rfl, SqL.of hq3, by rw [hz]; exact atI_pace l0, _, _, rfl, rfl, ?_⟩
          refine ⟨_, hJ, ?_, ?_, fun e o g => ?_⟩
          · rw [List.length_map, List.length_map]
            refine small1000 (Nat.le_trans (List.length_filter_le _ _) ?_)
            rw [List.length_take]
            omega
          · have : List.filter (fun m => decide (lo ≤ m.1 ∧ m.1 < hi)) [m] = [m] := by simp only [List.filter_cons, decide_eq_true c, List.filter_nil]; rfl
            rw [upd_same, et, List.filter_append, this, List.map_append, List.map_append]
            rfl
          · rw [upd_ne (ne_of_none g hD)]
            exact sJ e o g
        · have c : ¬ (lo ≤ m.1 ∧ m.1 < hi) := fun z => c2 (decide_eq_true z.2)
          rw [no c]
          exact ⟨hJ, sJ⟩
      · have c : ¬ (lo ≤ m.1 ∧ m.1 < hi) := fun z => c1 (decide_eq_true z.1)
        refine ⟨_, rfl, ite2 (fun z => absurd z (by decide)) (fun _ => ?_)⟩
        rw [no c]
        exact ⟨hJ, sJ⟩
    · rintro J ⟨hJ, sJ⟩
      rw [List.length_map, tl, List.take_length] at hJ
      refine ⟨_, rfl, _, rfl, _, rfl, ⟨q, ps, lo, hi, rfl, sJ _ _ hq2, hp, fun H3 s3 => ?_⟩⟩
      refine ⟨_, rfl, D, _, rfl, SqL.of (s3 _ _ hJ), _, _, rfl, rfl, ?_⟩
      exact k H3 ((s1.trans s2).trans (sJ.trans s3))
end

/-! ### the mathematics of ends -/
theorem gain_split {ps : List Int} : ∀ (ms : List (Int × Int)) {lo mid hi : Int}, lo ≤ mid → mid ≤ hi → gain ps ms lo hi = gain ps ms lo mid + gain ps ms mid hi
  | [], _, _, _, _, _ => rfl
  | m :: ms, lo, mid, hi, h1, h2 => by
    have ih := gain_split (ps := ps) ms h1 h2
    rw [gain_cons, gain_cons, gain_cons, ih]
    by_cases a : lo ≤ m.1 ∧ m.1 < mid
    · rw [if_pos (show lo ≤ m.1 ∧ m.1 < hi by omega), if_pos a, if_neg (show ¬ (mid ≤ m.1 ∧ m.1 < hi) by omega)]
      omega
    · by_cases b : mid ≤ m.1 ∧ m.1 < hi
      · rw [if_pos (show lo ≤ m.1 ∧ m.1 < hi by omega), if_neg a, if_pos b]
        omega
      · rw [if_neg (show ¬ (lo ≤ m.1 ∧ m.1 < hi) by omega), if_neg a, if_neg b]
        omega
theorem work_split {ps : List Int} (ms : List (Int × Int)) {lo mid hi : Int} (h1 : lo ≤ mid) (h2 : mid ≤ hi) : workOf ps ms lo hi = workOf ps ms lo mid + workOf ps ms mid hi := by
  unfold workOf
  rw [gain_split ms h1 h2]
  omega
theorem gain_zero {ps : List Int} : ∀ {ms : List (Int × Int)} {lo hi : Int}, (∀ m ∈ ms, m.1 < lo ∨ hi ≤ m.1) → gain ps ms lo hi = 0
  | [], _, _, _ => rfl
  | m :: ms, lo, hi, h => by
    rw [gain_cons, gain_zero (ms := ms) fun m' hm' => h m' (List.mem_cons_of_mem _ hm'), if_neg (by have := h m List.mem_cons_self; omega)]
    rfl
theorem tally_mono {ps : List Int} (hp : Paces ps) (t : Int) : ∀ k : Nat, tally ps t ≤ tally ps (t + k)
  | 0 => by rw [show t + ((0 : Nat) : Int) = t by omega]; exact Int.le_refl _
  | k + 1 => by
    have ih := tally_mono hp t k
    have e : t + ((k + 1 : Nat) : Int) = (t + k) + 1 := by omega
    have := hp.lo _ (pace_in (t := t + k) hp.len0)
    rw [e, tally_step hp.len0]
    omega
theorem tally_le {ps : List Int} (hp : Paces ps) {t u : Int} (h : t ≤ u) : tally ps t ≤ tally ps u := by
  have := tally_mono hp t (u - t).toNat
  rw [show t + (((u - t).toNat : Nat) : Int) = u by omega] at this
  exact this
theorem tally_weeks {ps : List Int} (h : 0 < ps.length) (t k : Int) : tally ps (t + k * ps.length) = tally ps t + k * ps.sum := by
  unfold tally
  rw [Int.add_mul_ediv_right _ _ (show (ps.length : Int) ≠ 0 by omega), Int.add_mul_emod_self_right, Int.add_mul]
  omega
theorem sum_pos {ps : List Int} (hp : Paces ps) : 1 ≤ ps.sum := by
  obtain ⟨v, hv, v0⟩ := hp.pos
  have lo := hp.lo
  clear hp
  have key : ∀ xs : List Int, (∀ u ∈ xs, 0 ≤ u ∧ u ≤ 3) → v ∈ xs → v ≤ xs.sum := by
    intro xs
    induction xs with
    | nil => exact fun _ h => absurd h List.not_mem_nil
    | cons x xs ih =>
      intro g h
      have s0 := (sum_lo (xs := xs) fun u hu => g u (List.mem_cons_of_mem _ hu)).1
      have x0 := g x List.mem_cons_self
      rw [List.sum_cons]
      rcases List.mem_cons.mp h with e | e
      · omega
      · have := ih (fun u hu => g u (List.mem_cons_of_mem _ hu)) e
        omega
  have := key ps lo hv
  have := lo v hv
  omega
theorem pace_sum {ps : List Int} (hp : Paces ps) (t : Int) : paceOf ps t ≤ ps.sum := by
  have e := tally_step hp.len0 t
  have h1 := tally_le hp (show t + 1 ≤ t + ps.length by have := hp.len0; omega)
  have h2 := tally_weeks hp.len0 t 1
  rw [show t + 1 * (ps.length : Int) = t + ps.length by omega] at h2
  omega
theorem gain_ge {ps : List Int} (hp : Paces ps) : ∀ {ms : List (Int × Int)} (lo hi : Int), (∀ m ∈ ms, 0 ≤ m.2 ∧ m.2 ≤ 3) → -(ms.length * ps.sum) ≤ gain ps ms lo hi
  | [], _, _, _ => by
    show -((0 : Int) * ps.sum) ≤ 0
    omega
  | m :: ms, lo, hi, h => by
    have ih := gain_ge hp (ms := ms) lo hi fun m' hm' => h m' (List.mem_cons_of_mem _ hm')
    have := h m List.mem_cons_self
    have := pace_sum hp m.1
    have := sum_pos hp
    rw [gain_cons, List.length_cons, show ((ms.length + 1 : Nat) : Int) = (ms.length : Int) + 1 by omega, Int.add_mul]
    split <;> omega
theorem work_weeks {ps : List Int} (hp : Paces ps) {ms : List (Int × Int)} (hv : ∀ m ∈ ms, 0 ≤ m.2 ∧ m.2 ≤ 3) (t : Int) (k : Nat) (h : ms.length ≤ k) : (k : Int) - ms.length ≤ workOf ps ms t (t + k * ps.length) := by
  unfold workOf
  have := gain_ge hp t (t + k * ps.length) hv
  have s1 := sum_pos hp
  rw [tally_weeks hp.len0]
  have e : ((k : Int) - ms.length) * 1 ≤ ((k : Int) - ms.length) * ps.sum := Int.mul_le_mul_of_nonneg_left s1 (by omega)
  rw [Int.mul_one, Int.sub_mul] at e
  omega
def IsEnd (ps : List Int) (ms : List (Int × Int)) (t a r : Int) : Prop := t ≤ r ∧ a ≤ workOf ps ms t r ∧ ∀ u, t ≤ u → u < r → workOf ps ms t u < a
theorem IsEnd.one {ps : List Int} {ms : List (Int × Int)} {t a r r' : Int} (h : IsEnd ps ms t a r) (g : IsEnd ps ms t a r') : r = r' := by
  rcases Int.lt_trichotomy r r' with c | c | c
  · have := g.2.2 r h.1 c
    have := h.2.1
    omega
  · exact c
  · have := h.2.2 r' g.1 c
    have := g.2.1
    omega
def BareEnd (ps : List Int) (b a r : Int) : Prop := b ≤ r ∧ a ≤ tally ps r - tally ps b ∧ ∀ u, b ≤ u → u < r → tally ps u - tally ps b < a
theorem work_real {ps : List Int} {ms : List (Int × Int)} (h : 0 < ps.length) (asc : ms.Pairwise fun a b => a.1 < b.1) {t r : Int} (g : t ≤ r) : workOf ps (realOf ps ms) t r = workOf ps ms t r := by
  have e1 := work_sum h (real_asc (ps := ps) asc) t (r - t).toNat
  have e2 := work_sum h asc t (r - t).toNat
  rw [show t + (((r - t).toNat : Nat) : Int) = r by omega] at e1 e2
  rw [e1, e2, sumSp_real asc]
theorem IsEnd.real {ps : List Int} {ms : List (Int × Int)} (h : 0 < ps.length) (asc : ms.Pairwise fun a b => a.1 < b.1) {t a r : Int} (g : IsEnd ps (realOf ps ms) t a r) : IsEnd ps ms t a r := by
  refine ⟨g.1, ?_, fun u h1 h2 => ?_⟩
  · rw [← work_real h asc g.1]
    exact g.2.1
  · rw [← work_real h asc h1]
    exact g.2.2 u h1 h2
theorem end_bound {ps : List Int} (hp : Paces ps) {ms : List (Int × Int)} (hv : ∀ m ∈ ms, 0 ≤ m.2 ∧ m.2 ≤ 3) {t a r : Int} {k : Nat} (h : ms.length ≤ k) (g : a ≤ (k : Int) - ms.length) (e : IsEnd ps ms t a r) : r ≤ t + k * ps.length := by
  rcases Int.lt_or_le (t + k * ps.length) r with c | c
  · have l0 := hp.len0
    have : (0 : Int) ≤ k * ps.length := Int.mul_nonneg (by omega) (by omega)
    have := e.2.2 _ (by omega) c
    have := work_weeks hp hv t k h
    omega
  · exact c
/-- what stands between the statements of the search for an end -/
structure Seek (ps : List Int) (ms : List (Int × Int)) (t a b lf : Int) : Prop where
  le : t ≤ b
  left : lf = a - workOf ps ms t b
  none : ∀ u, t ≤ u → u < b → workOf ps ms t u < a
theorem Seek.fin {ps : List Int} {ms : List (Int × Int)} {t a b lf r : Int} (s : Seek ps ms t a b lf) (e : BareEnd ps b lf r) (z : ∀ u, b ≤ u → u ≤ r → gain ps ms b u = 0) : IsEnd ps ms t a r := by
  have bare : ∀ u, b ≤ u → u ≤ r → workOf ps ms t u = workOf ps ms t b + (tally ps u - tally ps b) := fun u h1 h2 => by
    rw [work_split ms s.le h1]
    unfold workOf
    rw [z u h1 h2]
    omega
  have h0 := s.left
  have h1 := e.1
  have h2 := s.le
  refine ⟨by omega, ?_, fun u g1 g2 => ?_⟩
  · rw [bare r h1 (Int.le_refl _)]
    have := e.2.1
    omega
  · rcases Int.lt_or_le u b with c | c
    · exact s.none u g1 c
    · rw [bare u c (by omega)]
      have := e.2.2 u c g2
      omega
theorem Seek.next {ps : List Int} (hp : Paces ps) {ms : List (Int × Int)} (asc : ms.Pairwise fun a b => a.1 < b.1) {t a b lf : Int} (s : Seek ps ms t a b lf) {i : Nat} {m : Int × Int} (hm : ms[i]? = some m) (hb : b ≤ m.1)
    (hj : ∀ j : Nat, j < i → ∀ m', ms[j]? = some m' → m'.1 < b) (hl : tally ps m.1 - tally ps b < lf) : Seek ps ms t a (m.1 + 1) (lf - (tally ps m.1 - tally ps b) - m.2) := by
  have off : ∀ u, u ≤ m.1 → ∀ m' ∈ ms, m'.1 < b ∨ u ≤ m'.1 := fun u hu m' hm' => by
    obtain ⟨j, hj', e⟩ := List.getElem_of_mem hm'
    have hi : i < ms.length := (List.getElem?_eq_some_iff.mp hm).1
    have em : ms[i] = m := by rw [List.getElem?_eq_getElem hi] at hm; exact Option.some.inj hm
    rcases Nat.lt_trichotomy j i with c | c | c
    · exact .inl (hj j c m' (by rw [List.getElem?_eq_getElem hj', e]))
    · subst c
      rw [em] at e
      rw [← e]
      exact .inr hu
    · have := List.pairwise_iff_getElem.mp asc i j hi hj' c
      rw [em, e] at this
      exact .inr (by omega)
  have z : ∀ u, u ≤ m.1 → gain ps ms b u = 0 := fun u hu => gain_zero (off u hu)
  have bare : ∀ u, b ≤ u → u ≤ m.1 → workOf ps ms t u = workOf ps ms t b + (tally ps u - tally ps b) := fun u h1 h2 => by
    rw [work_split ms s.le h1]
    unfold workOf
    rw [z u h2]
    omega
  have h0 := s.left
  have h2 := s.le
  have sp : speedAt ps ms m.1 = m.2 := by
    refine speed_hit (find_at hm (List.find?_eq_none.mpr fun m' hm' e' => ?_) (decide_eq_true rfl))
    obtain ⟨j, hj', e⟩ := List.getElem_of_mem hm'
    rw [List.length_take] at hj'
    rw [List.getElem_take] at e
    have hi : i < ms.length := (List.getElem?_eq_some_iff.mp hm).1
    have em : ms[i] = m := by rw [List.getElem?_eq_getElem hi] at hm; exact Option.some.inj hm
    have := List.pairwise_iff_getElem.mp asc j i (by omega) hi (by omega)
    rw [e, em] at this
    have e2 : m'.1 = m.1 := by simpa using e'
    omega
  refine ⟨by omega, ?_, fun u g1 g2 => ?_⟩
  · rw [work_split ms s.le (show b ≤ m.1 + 1 by omega)]
    have : workOf ps ms b (m.1 + 1) = (tally ps m.1 - tally ps b) + m.2 := by
      unfold workOf
      rw [tally_step hp.len0, gain_step asc hb, z m.1 (Int.le_refl _), sp]
      omega
    omega
  · rcases Int.lt_or_le u b with c | c
    · exact s.none u g1 c
    · rw [bare u c (by omega)]
      have := tally_le hp (show u ≤ m.1 by omega)
      omega

/-! ### the program's due -/
def spAmount : Sp := fun vs H Q _ => ∃ a : Int, vs = [.int a] ∧ 0 ≤ a ∧ Q .non H
def spWDue : Sp := fun vs H Q _ => ∃ (a : Addr) (ps : List Int) (b lf : Int), vs = [.ref a, .int b, .int lf] ∧ H a = some (.lst (ps.map V.int)) ∧ Paces ps ∧ ∀ (r : Int) (H' : Hp), BareEnd ps b lf r → Same H H' → Q (.int r) H'
def spDue (C : Addr) : Sp := fun vs H Q _ => ∃ (x l d : Addr) (ps : List Int) (ms : List (Int × Int)) (t a : Int), vs = [.ref x, .int t, .int a] ∧ CalAt C H x l d ps ms ∧ Paces ps ∧ (ms.Pairwise fun a b => a.1 < b.1) ∧ 0 ≤ a ∧
  ∀ (r : Int) (H' : Hp), IsEnd ps ms t a r → Same H H' → Q (.int r) H'
section
variable {P : Program} {w : World} {K : PySem.W.Frag} {mg : Str → Option Value} {base : Heap}
theorem scAmount : FnScope ["amount"] ["amount"] (defScope sAmount) := ⟨rfl, rfl, rfl, by decide +kernel, rfl, by decide +kernel, by decide +kernel⟩
theorem ok_amount {f : Addr} {fd : FuncData} (F : Fun K "check_amount" "check_amount" sAmount f fd) : FnOk P w K mg base CX0 1 f fd ["amount"] spAmount := by
  refine F.ok scAmount (fun vs H Q E h => ?_) (fun cdv A outer s H vs Q E hr h => ?_)
  · obtain ⟨a, rfl, _⟩ := h
    rfl
  · obtain ⟨a, rfl, g, k⟩ := h
    refine ⟨_, pss_one (ps_if (pt_cmpR op_lt (pv 0) pe_int (nomark _)) (pss_one ps_never) pss_nil), ?_⟩
    refine ⟨_, rfl, _, _, rfl, rfl, _, rfl, ite2 (fun e => ?_) (fun _ => k)⟩
    have : a < 0 := of_decide_eq_true e
    omega
theorem scWDue : FnScope ["speeds", "begin", "left", "weeks", "end"] ["speeds", "begin", "left"] (defScope sWDue) := ⟨rfl, rfl, rfl, by decide +kernel, rfl, by decide +kernel, by decide +kernel⟩
def wdMu (top : Int) (σ : L2.St) : Nat := match σ[4]? with
  | some (some (V.int e)) => (top - e).toNat
  | _ => 0
theorem ok_wdue {f : Addr} {fd : FuncData} (F : Fun K "weekly_due" "weekly_due" sWDue f fd) (T : Blt mg) (T2 : Blt2 mg) : FnOk P w K mg base CX0 1 f fd ["speeds", "begin", "left"] spWDue := by
  refine F.ok scWDue (fun vs H Q E h => ?_) (fun cdv A outer s H vs Q E hr h => ?_)
  · obtain ⟨a, ps, b, lf, rfl, _⟩ := h
    rfl
  · obtain ⟨a, ps, b, lf, rfl, ha, hp, k⟩ := h
    refine ⟨_, pss_cons (ps_set (i := 3) scWDue.nd rfl (.inl rfl) (pe_op op_fdiv (pe_callB (call_max2 rfl) (by rfl) T.max (by decide +kernel) (pa_cons (pe_op op_sub (pv 2) pe_int) (pa_cons pe_int pa_nil))) (pe_callB (cr_sum rfl) (by rfl) T2.sum (by decide +kernel) (pa_cons (pv 0) pa_nil))))
      (pss_cons (ps_set (i := 2) scWDue.nd rfl (.inl rfl) (pe_op op_sub (pv 2) (pe_op op_mul (pv 3) (pe_callB (cr_sum rfl) (by rfl) T2.sum (by decide +kernel) (pa_cons (pv 0) pa_nil)))))
      (pss_cons (ps_set (i := 4) scWDue.nd rfl (.inl rfl) (pe_op op_add (pv 1) (pe_op op_mul (pv 3) (pe_callB call_len_seq (by rfl) T.len PySem.boot_len (pa_cons (pv 0) pa_nil)))))
      (pss_cons (ps_while PassesOwn.never (pt_cmpR op_gt (pv 2) pe_int (nomark _))
        (pss_cons (ps_set (i := 2) scWDue.nd rfl (.inl rfl) (pe_op op_sub (pv 2) (pe_ix ix_list (pv 0) (pe_op op_mod (pv 4) (pe_callB call_len_seq (by rfl) T.len PySem.boot_len (pa_cons (pv 0) pa_nil))) (fun _ _ => rfl))))
        (pss_one (ps_aug (i := 4) scWDue.nd rfl (.inl rfl) pe_int ip_add))))
      (pss_one (ps_ret (pv 4)))))), ?_⟩
    have l0 := hp.len0
    have l1 := hp.len1
    have hz : (((ps.map V.int).length : Nat) : Int) = ps.length := by rw [List.length_map]
    have s1 := sum_pos hp
    have s2 := (sum_lo hp.lo).2
    have sq : SqL K H a (ps.map V.int) := SqL.of ha
    refine ⟨_, rfl, _, _, rfl, rfl, _, _, rfl, _, rfl, a, ps, rfl, sq, _, _, rfl, rfl, ⟨by omega, by omega⟩, ?_⟩
    generalize hw : (if (0 : Int) > lf - 1 then (0 : Int) else lf - 1) / ps.sum = wk
    have wk0 : 0 ≤ wk := by
      rw [← hw]
      refine Int.ediv_nonneg ?_ (by omega)
      split <;> omega
    have wkS : wk * ps.sum ≤ (if (0 : Int) > lf - 1 then (0 : Int) else lf - 1) := by
      rw [← hw]
      exact Int.ediv_mul_le _ (by omega)
    have wkT : (if (0 : Int) > lf - 1 then (0 : Int) else lf - 1) < wk * ps.sum + ps.sum := by
      rw [← hw]
      have := Int.lt_ediv_add_one_mul_self (if (0 : Int) > lf - 1 then (0 : Int) else lf - 1) (show 0 < ps.sum by omega)
      rw [Int.add_mul] at this
      omega
    have tw := tally_weeks l0 b wk
    have tn := tally_weeks l0 (b + wk * ps.length) 1
    rw [show b + wk * (ps.length : Int) + 1 * ps.length = b + wk * ps.length + ps.length by omega] at tn
    refine ⟨_, rfl, _, rfl, _, rfl, a, ps, rfl, sq, _, _, rfl, rfl, .inr ⟨by omega, by omega⟩, _, _, rfl, rfl, ?_⟩
    refine ⟨_, rfl, _, rfl, _, rfl, a, _, rfl, .inl sq, _, _, rfl, rfl, .inr ⟨by rw [hz]; omega, by rw [hz]; omega⟩, _, _, rfl, rfl, ?_⟩
    rw [hz]
    have pos : (0 : Int) ≤ wk * ps.length := Int.mul_nonneg wk0 (by omega)
    generalize hb0 : b + wk * (ps.length : Int) = e0 at tw tn
    generalize hW : wk * ps.sum = wS at wkS wkT tw
    refine while_by (fun σ J => ∃ e lf' : Int, σ = [some (.ref a), some (.int b), some (.int lf'), some (.int wk), some (.int e)] ∧ J = H ∧ e0 ≤ e ∧ e ≤ e0 + ps.length ∧ lf' = lf - wS - (tally ps e - tally ps e0) ∧ (∀ u, e0 ≤ u → u < e → tally ps u - tally ps e0 < lf - wS))
      (fun σ _ => wdMu (e0 + ps.length) σ) ⟨e0, lf - wS, (by subst hb0; subst hW; subst hw; rfl), rfl, Int.le_refl _, by omega, by omega, fun u h1 h2 => by omega⟩ ?_ ?_
    · rintro σ J ⟨e, lf', rfl, rfl, g1, g2, g3, g4⟩
      refine ⟨_, rfl, _, _, rfl, rfl, _, rfl, ite2 (fun c => ?_) (fun c => ?_)⟩
      · have c0 : 0 < lf' := of_decide_eq_true c
        have ne : e < e0 + ps.length := by
          rcases Int.lt_or_le e (e0 + ps.length) with q | q
          · exact q
          · have : e = e0 + ps.length := by omega
            rw [this] at g3
            rw [tn] at g3
            split at wkT <;> omega
        refine ⟨_, rfl, _, rfl, _, rfl, _, rfl, a, _, rfl, .inl sq, _, _, rfl, rfl, by rw [hz]; omega, a, _, _, .int (paceOf ps e), rfl, rfl, sq, by rw [hz]; exact atI_pace l0, _, _, rfl, rfl, ?_⟩
        have ts := tally_step l0 e
        refine ⟨_, rfl, _, _, rfl, rfl, ⟨e + 1, lf' - paceOf ps e, rfl, rfl, by omega, by omega, by omega, fun u h1 h2 => ?_⟩, ?_⟩
        · rcases Int.lt_or_le u e with q | q
          · exact g4 u h1 q
          · have : u = e := by omega
            rw [this]
            omega
        · show (e0 + ps.length - (e + 1)).toNat < (e0 + ps.length - e).toNat
          omega
      · have c0 : lf' ≤ 0 := by
          rcases Int.lt_or_le 0 lf' with q | q
          · exact absurd (decide_eq_true q) c
          · exact q
        refine ⟨_, rfl, k e _ ⟨by omega, by omega, fun u h1 h2 => ?_⟩ (Same.refl _)⟩
        rcases Int.lt_or_le u e0 with q | q
        · have := tally_le hp (show u ≤ e0 by omega)
          by_cases d : lf ≤ 0
          · have hz2 : wk = 0 := by
              rw [if_pos (by omega), Int.zero_ediv] at hw
              omega
            rw [hz2] at hb0
            omega
          · rw [if_neg (by omega)] at wkS
            omega
        · have := g4 u q h2
          omega
    · rintro σ J Q' Q'' hq ⟨v, hv, i, j, e1, e2, kk, ek, q⟩
      exact ⟨v, hv, i, j, e1, e2, kk, ek, hq _ _ q⟩
theorem scDue : FnScope ["calendar", "moment", "amount", "speeds", "begin", "left", "changed", "speed", "before"] ["calendar", "moment", "amount"] (defScope sDue) := ⟨rfl, rfl, rfl, by decide +kernel, rfl, by decide +kernel, by decide +kernel⟩
theorem ok_due {f fA fW fD C p2 g2 p3 g3 : Addr} {fd dA dW dD d2 d3 : FuncData} (F : Fun K "due" "due" sDue f fd) (Z : Cal K mg C) (Am : At P w K mg base 1 "check_amount" ["amount"] spAmount fA dA)
    (Ww : At P w K mg base 2 "weekly_work" ["speeds", "begin", "end"] spWWork fW dW) (Wd : At P w K mg base 1 "weekly_due" ["speeds", "begin", "left"] spWDue fD dD)
    (W2 : Pp P w K mg base C "speeds" (spSpeeds C) p2 g2 d2) (W3 : Pp P w K mg base C "changes" (spChanges C) p3 g3 d3) :
    FnOk P w K mg base CX0 3 f fd ["calendar", "moment", "amount"] (spDue C) := by
  refine F.ok scDue (fun vs H Q E h => ?_) (fun cdv A outer s H vs Q E hr h => ?_)
  · obtain ⟨x, l, d, ps, ms, t, a, rfl, _⟩ := h
    rfl
  · obtain ⟨x, l, d, ps, ms, t, a, rfl, cal, hp, asc, a0, k⟩ := h
    have hr1 : Room 1 _ := hr.mono (by decide)
    refine ⟨_, pss_cons (ps_expr (pe_call Am.ok hr1 (by rfl) Am.at_ Am.kp Am.bi .nil pass0 (pa_cons (pv 2) pa_nil)))
      (pss_cons (ps_set (i := 3) scDue.nd rfl (.inl rfl) (pe_prop (pv 0) Z.cl W2.of W2.ok hr W2.bi .nil pass0 rfl))
      (pss_cons (ps_par (i := 4) (j := 5) rfl scDue.nd rfl rfl (by decide) rfl rfl (pa_cons (pv 1) (pa_cons (pv 2) pa_nil)) (by rfl))
      (C8.pss_cut (ps_for PassesOwn.never rfl (pi_list (pe_prop (pv 0) Z.cl W3.of W3.ok hr W3.bi .nil pass0 rfl)) (pg_tup rfl (pgs_cons (pg_name (i := 6) scDue.nd rfl (.inl rfl)) (pgs_cons (pg_name (i := 7) scDue.nd rfl (.inl rfl)) pgs_nil)))
        (pss_cons (ps_if (pt_cmpR op_lt (pv 6) (pv 4) (nomark _)) (pss_one ps_continue) pss_nil)
        (pss_cons (ps_set (i := 8) scDue.nd rfl (.inl rfl) (pe_call Ww.ok hr (by rfl) Ww.at_ Ww.kp Ww.bi .nil pass0 (pa_cons (pv 3) (pa_cons (pv 4) (pa_cons (pv 6) pa_nil)))))
        (pss_cons (ps_if (pt_cmpR op_ge (pv 8) (pv 5) (nomark _)) (pss_one ps_break) pss_nil)
        (pss_cons (ps_set (i := 5) scDue.nd rfl (.inl rfl) (pe_op op_sub (pe_op op_sub (pv 5) (pv 8)) (pv 7)))
        (pss_one (ps_set (i := 4) scDue.nd rfl (.inl rfl) (pe_op op_add (pv 6) pe_int))))))))
      (pss_one (ps_ret (pe_call Wd.ok hr1 (by rfl) Wd.at_ Wd.kp Wd.bi .nil pass0 (pa_cons (pv 3) (pa_cons (pv 4) (pa_cons (pv 5) pa_nil))))))))), ?_⟩
    obtain ⟨dx, hx⟩ := cal.ob
    refine ⟨_, rfl, ⟨a, rfl, a0, ?_⟩⟩
    refine ⟨_, rfl, x, dx, _, rfl, hx, ⟨x, l, d, ps, ms, rfl, cal, fun q nq => ?_⟩⟩
    have s1 := same_new (o := .lst (ps.map V.int)) nq
    refine ⟨_, rfl, _, rfl, _, _, rfl, ?_⟩
    have hq1 : (upd H q (.lst (ps.map V.int))) q = some (.lst (ps.map V.int)) := upd_same
    refine ⟨fun σ J => ∃ (b lf : Int) (y6 y7 y8 : Option V), σ = [some (.ref x), some (.int t), some (.int a), some (.ref q), some (.int b), some (.int lf), y6, y7, y8] ∧ J q = some (.lst (ps.map V.int)) ∧ Same H J ∧ Seek ps ms t a b lf ∧
      (∀ r, BareEnd ps b lf r → ∀ u, b ≤ u → u ≤ r → gain ps ms b u = 0), ?_, ?_⟩
    · refine ⟨_, rfl, x, dx, _, rfl, s1 _ _ hx, ⟨x, l, d, ps, ms, rfl, cal.same s1, fun H2 c ts s2 nc nt ct hc tp => ?_⟩⟩
      have tl := tp.len
      have sk0 : Seek ps ms t a t a := ⟨Int.le_refl _, by unfold workOf; rw [gain_nil]; omega, fun u h1 h2 => by omega⟩
      refine ⟨c, rfl, ⟨_, SqL.of hc⟩, for_list (K := K) (a := c) (xs := ts.map V.ref) (fun i σ J => ∃ (b lf : Int) (y6 y7 y8 : Option V), σ = [some (.ref x), some (.int t), some (.int a), some (.ref q), some (.int b), some (.int lf), y6, y7, y8] ∧ Same H2 J ∧ Seek ps ms t a b lf ∧ (∀ j : Nat, j < i → ∀ m', ms[j]? = some m' → m'.1 < b))
        ⟨t, a, none, none, none, rfl, Same.refl _, sk0, fun j hj => absurd hj (Nat.not_lt_zero _)⟩ (fun i σ J _ ⟨_, _, _, _, _, _, sJ, _⟩ => SqL.of (sJ _ _ hc)) ?_ ?_⟩
      · rintro i y σ J hi' ⟨b, lf, y6, y7, y8, rfl, sJ, sk, hj⟩
        have hi2 : i < ts.length := by
          have := (List.getElem?_eq_some_iff.mp hi').1
          simpa using this
        rw [List.getElem?_map, List.getElem?_eq_getElem hi2] at hi'
        obtain rfl := Option.some.inj hi'
        obtain ⟨m, hm, hm2⟩ := (tp.same sJ).get (List.getElem?_eq_getElem hi2)
        refine ⟨_, _, rfl, .inl (.inl hm2), rfl, _, _, rfl, _, [], rfl, rfl, ?_⟩
        refine ⟨_, rfl, _, rfl, _, _, rfl, rfl, _, rfl, ite2 (fun c1 => ?_) (fun c1 => ?_)⟩
        · have c2 : m.1 < b := of_decide_eq_true c1
          refine ⟨b, lf, _, _, _, rfl, sJ, sk, fun j hj' m' hm' => ?_⟩
          rcases Nat.lt_or_ge j i with z | z
          · exact hj j z m' hm'
          · have : j = i := by omega
            rw [this, hm] at hm'
            rw [← Option.some.inj hm']
            exact c2
        · have hb : b ≤ m.1 := by
            rcases Int.lt_or_le m.1 b with z | z
            · exact absurd (decide_eq_true z) c1
            · exact z
          refine ⟨_, rfl, _, rfl, _, rfl, ⟨q, ps, b, m.1, rfl, sJ _ _ (s2 _ _ hq1), hp, fun J2 sJ2 => ?_⟩⟩
          refine ⟨_, rfl, _, rfl, _, _, rfl, rfl, _, rfl, ite2 (fun c3 => ?_) (fun c3 => ?_)⟩
          · have c4 : lf ≤ tally ps m.1 - tally ps b := of_decide_eq_true c3
            refine ⟨b, lf, _, _, _, rfl, sJ2 _ _ (sJ _ _ (s2 _ _ hq1)), (s1.trans s2).trans (sJ.trans sJ2), sk, fun r hr' u h1 h2 => ?_⟩
            have rm : r ≤ m.1 := by
              rcases Int.lt_or_le m.1 r with z | z
              · have := hr'.2.2 m.1 hb z
                omega
              · exact z
            refine gain_zero fun m' hm' => ?_
            obtain ⟨j, hj', e⟩ := List.getElem_of_mem hm'
            have hi : i < ms.length := (List.getElem?_eq_some_iff.mp hm).1
            have em : ms[i] = m := by rw [List.getElem?_eq_getElem hi] at hm; exact Option.some.inj hm
            rcases Nat.lt_trichotomy j i with z | z | z
            · exact .inl (hj j z m' (by rw [List.getElem?_eq_getElem hj', e]))
            · subst z
              rw [em] at e
              rw [← e]
              exact .inr (by omega)
            · have := List.pairwise_iff_getElem.mp asc i j hi hj' z
              rw [em, e] at this
              exact .inr (by omega)
          · have c4 : tally ps m.1 - tally ps b < lf := by
              rcases Int.lt_or_le (tally ps m.1 - tally ps b) lf with z | z
              · exact z
              · exact absurd (decide_eq_true z) c3
            have sk2 := sk.next hp asc hm hb hj c4
            refine ⟨_, rfl, _, rfl, _, _, rfl, rfl, _, rfl, _, _, rfl, rfl, ?_⟩
            refine ⟨_, rfl, _, _, rfl, rfl, m.1 + 1, _, _, _, _, rfl, sJ.trans sJ2, sk2, fun j hj' m' hm' => ?_⟩
            rcases Nat.lt_or_ge j i with z | z
            · have := hj j z m' hm'
              omega
            · have : j = i := by omega
              rw [this, hm] at hm'
              rw [← Option.some.inj hm']
              omega
      · rintro σ J ⟨b, lf, y6, y7, y8, rfl, sJ, sk, hj⟩
        rw [List.length_map, tl] at hj
        refine ⟨b, lf, _, _, _, rfl, sJ _ _ (s2 _ _ hq1), (s1.trans s2).trans sJ, sk, fun r _ u h1 h2 => gain_zero fun m' hm' => ?_⟩
        obtain ⟨j, hj', e⟩ := List.getElem_of_mem hm'
        exact .inl (hj j hj' m' (by rw [List.getElem?_eq_getElem hj', e]))
    · rintro σ J ⟨b, lf, y6, y7, y8, rfl, hq2, sJ, sk, z⟩
      refine ⟨_, rfl, _, rfl, _, rfl, ⟨q, ps, b, lf, rfl, hq2, hp, fun r J2 e sJ2 => ?_⟩⟩
      exact k r J2 (sk.fin e (z r e)) (sJ.trans sJ2)
end

/-! ### a moment near the changes -/
theorem shaped_marks (ms : List (Int × Int)) : SeqAt.shaped (dMarks ms) = true := by
  have h1 : ∀ ms : List (Int × Int), PyData.canLayAll0 (ms.map fun m => PyData.tuple [.int m.1, .int m.2]) = true := by
    intro ms
    induction ms with
    | nil => rfl
    | cons m ms ih =>
      rw [List.map_cons]
      show (PyData.canLay0 (.tuple [.int m.1, .int m.2]) && PyData.canLayAll0 (ms.map fun m => PyData.tuple [.int m.1, .int m.2])) = true
      rw [ih]
      rfl
  have h2 : ∀ ms : List (Int × Int), PyData.depthAll (ms.map fun m => PyData.tuple [.int m.1, .int m.2]) ≤ 1 := by
    intro ms
    induction ms with
    | nil => exact Nat.zero_le _
    | cons m ms ih =>
      rw [List.map_cons]
      simp only [PyData.depthAll, PyData.depth]
      omega
  unfold SeqAt.shaped dMarks
  have e1 : PyData.canLay0 (.list (ms.map fun m => PyData.tuple [.int m.1, .int m.2])) = true := by
    simp only [PyData.canLay0]
    exact h1 ms
  have e2 : PyData.depth (.list (ms.map fun m => PyData.tuple [.int m.1, .int m.2])) ≤ 64 := by
    simp only [PyData.depth]
    have := h2 ms
    omega
  rw [e1, decide_eq_true e2]
  rfl
theorem eqv_none : PyData.eqv (dMarks []) (.list []) = true := rfl
theorem eqv_some (m : Int × Int) (ms : List (Int × Int)) : PyData.eqv (dMarks (m :: ms)) (.list []) = false := rfl
def spNear : Sp := fun vs H Q _ => ∃ (p b : Addr) (n : Nat) (ts : List Addr) (ms : List (Int × Int)) (back : Int), vs = [.ref p, .ref b, .int back] ∧ Well H p n ∧ n ≤ 10 ^ 7 ∧ H b = some (.lst (ts.map V.ref)) ∧ b ≠ p ∧ Tups H ts ms ∧
  (∀ m ∈ ms, -10 ^ 31 < m.1 ∧ m.1 < 10 ^ 31) ∧ ms.length ≤ 1000 ∧ 1 ≤ back ∧ back ≤ 1000 ∧
  ∀ (r : Int) (H' : Hp), -(2 * 10 ^ 31) < r → r < 2 * 10 ^ 31 → Fr p H H' → Well H' p (n + 10) → Q (.int r) H'
section
variable {P : Program} {w : World} {K : PySem.W.Frag} {mg : Str → Option Value} {base : Heap}
theorem scNear : FnScope ["well", "marks", "back", "way"] ["well", "marks", "back"] (defScope sNear) := ⟨rfl, rfl, rfl, by decide +kernel, rfl, by decide +kernel, by decide +kernel⟩
theorem ok_near {f fT fN : Addr} {fd fdT fdN : FuncData} (F : Fun K "_law_near" "_law_near" sNear f fd) (T : Blt mg) (L : Tk P w K mg base fT fdT) (B : Nb P w K mg base fN fdN) : FnOk P w K mg base CX0 3 f fd ["well", "marks", "back"] spNear := by
  refine F.ok scNear (fun vs H Q E h => ?_) (fun cdv A outer s H vs Q E hr h => ?_)
  · obtain ⟨p, b, n, ts, ms, back, rfl, _⟩ := h
    rfl
  · obtain ⟨p, b, n, ts, ms, back, rfl, hW, hn, hb, bp, tp, big, ml, b0, b1, k⟩ := h
    have hr1 : Room 1 _ := hr.mono (by decide)
    have hu := hr.units
    refine ⟨_, pss_cons (ps_set (i := 3) scNear.nd rfl (.inl rfl) (pe_call L.ok hr1 (by rfl) L.at_ L.kp L.bi .nil pass0 (pa_cons (pv 0) (pa_cons pe_int pa_nil))))
      (pss_cons (ps_if (PW.pt (pw_or (pt_cmpR (op_eqD hu) (pv 1) (pe_lst pa_nil) (nomark _)) (pw_or1 (pt_cmpR op_eq (pv 3) pe_int (nomark _))))) (pss_one (ps_ret (pe_call B.ok hr (by rfl) B.at_ B.kp B.bi .nil pass0 (pa_cons (pv 0) pa_nil)))) pss_nil)
      (pss_one (ps_ret (pe_op op_sub (pe_op op_add (pe_ix ix_tup (pe_ix ix_list (pv 1) (pe_call L.ok hr1 (by rfl) L.at_ L.kp L.bi .nil pass0 (pa_cons (pv 0) (pa_cons (pe_callB call_len_seq (by rfl) T.len PySem.boot_len (pa_cons (pv 1) pa_nil)) pa_nil))) (fun _ _ => rfl)) pe_int (fun _ _ => rfl)) pe_int)
        (pe_call L.ok hr1 (by rfl) L.at_ L.kp L.bi .nil pass0 (pa_cons (pv 0) (pa_cons (pv 2) pa_nil))))))), ?_⟩
    refine ⟨_, rfl, ⟨_, _, _, rfl, hW, (by omega), (by decide), (by decide), fun way H1 y0 y1 f1 w1 => ?_⟩⟩
    have hb1 := f1 _ _ hb bp
    have tp1 := tp.fr hW f1
    refine ⟨_, rfl, Nat.zero_le _, fun l hl => ?_⟩
    have s1 := same_new (o := .lst []) hl
    have w2 := w1.same s1
    have f2 := f1.trans (Fr.of s1)
    have number : ∀ (Q' : VK), (∀ (r : Int) (H' : Hp), -(2 * 10 ^ 31) < r → r < 2 * 10 ^ 31 → Fr p H H' → Well H' p (n + 10) → Q' (.int r) H') → spNumber [.ref p] (upd H1 l (.lst [])) Q' E0 := fun Q' q => ⟨p, _, rfl, w2, by omega, fun r H3 r0 r1 f3 w3 => q r H3 (by omega) (by omega) (f2.trans f3) (w3.mono (by omega))⟩
    refine ⟨dMarks ms, .list [], dp_marks (SqL.of (s1 _ _ hb1)) (tp1.same s1), .lst (SqL.of upd_same) .nil, shaped_marks ms, rfl, _, rfl, ?_⟩
    cases ms with
    | nil =>
      rw [eqv_none]
      exact ⟨_, rfl, number _ k⟩
    | cons m ms =>
      rw [eqv_some]
      refine ⟨_, rfl, rfl, _, rfl, ite2 (fun _ => ⟨_, rfl, number _ k⟩) (fun _ => ?_)⟩
      have tl := tp.len
      have hb2 := s1 _ _ hb1
      refine ⟨_, rfl, _, rfl, _, rfl, b, _, rfl, .inl (SqL.of hb2), ⟨_, _, _, rfl, w2, (by omega), by rw [List.length_map, tl, List.length_cons]; omega, by rw [List.length_map, tl]; omega, fun y H3 y0 y1 f3 w3 => ?_⟩⟩
      rw [List.length_map, tl] at y1
      obtain ⟨j, rfl⟩ : ∃ j : Nat, y = (j : Int) := ⟨y.toNat, by omega⟩
      have hj : j < ts.length := by omega
      have f23 := f2.trans f3
      obtain ⟨m', hm, hm2⟩ := (tp.fr hW f23).get (List.getElem?_eq_getElem hj)
      have hmb := big m' (List.mem_of_getElem? hm)
      refine ⟨b, _, _, .ref ts[j], rfl, rfl, SqL.of (f3 _ _ hb2 bp), atI_nat (j := j) (by rw [List.getElem?_map, List.getElem?_eq_getElem hj]; rfl), ts[j], _, 0, _, rfl, rfl, SqT.of hm2, atI_nat (j := 0) rfl, _, _, rfl, rfl, ?_⟩
      refine ⟨_, rfl, _, rfl, ⟨_, _, _, rfl, w3, (by omega), (by omega), (by omega), fun v H4 v0 v1 f4 w4 => ⟨_, _, rfl, rfl, ?_⟩⟩⟩
      exact k _ H4 (by omega) (by omega) (f23.trans f4) (w4.mono (by omega))
end

theorem Paces.fits {ps : List Int} (h : Paces ps) : ∀ v ∈ ps, -10 ^ 40 < v ∧ v < 10 ^ 40 := fun v hv => by have := h.lo v hv; omega
theorem Marks.fit {cap : Int} {ms : List (Int × Int)} (h : Marks cap ms) (g : cap ≤ 3) : Fit ms := ⟨h.asc, h.val, by have := h.len; omega⟩
/-- a new calendar, by the promise of its __init__ -/
theorem made_ok {K : PySem.W.Frag} {C : Addr} {H : Hp} {x dx a b : Addr} {ps : List Int} {ts : List Addr} {ms : List (Int × Int)} {vs : List V} {R : VK} {E : XK} (hv : vs = [.ref x, .ref a, .ref b]) (nx : H x = none) (ndx : H dx = none)
    (ha : H a = some (.lst (ps.map V.int))) (hb : H b = some (.lst (ts.map V.ref))) (tp : Tups H ts ms) (hp : Paces ps) (fit : Fit ms)
    (k : ∀ H' l d, CalAt C H' x l d ps (realOf ps ms) → H l = none → H d = none → Same H H' → R .non H') :
    spInit C K vs (upd (upd H dx (.own x)) x (.ins C dx [])) R E := by
  have s0 : Same H (upd (upd H dx (.own x)) x (.ins C dx [])) := fun c o e => by
    rw [upd_ne (ne_of_none e nx), upd_ne (ne_of_none e ndx)]
    exact e
  refine ⟨x, dx, a, b, ps, ts, ms, hv, upd_same, SqL.of (s0 _ _ ha), SqL.of (s0 _ _ hb), tp.same s0, hp, fit, ne_of_none ha nx, ne_of_none hb nx, fun H' l d cal nl nd f => ?_⟩
  exact k H' l d cal (s0.free nl) (s0.free nd) (Same.made nx ndx f)

/-! ### a calendar moved -/
def movP (ps : List Int) (s : Int) : List Int := (List.range ps.length).map fun (i : Nat) => paceOf ps ((i : Int) - s)
def movM (ms : List (Int × Int)) (s : Int) : List (Int × Int) := ms.map fun m => (m.1 + s, m.2)
theorem movP_len (ps : List Int) (s : Int) : (movP ps s).length = ps.length := by unfold movP; rw [List.length_map, List.length_range]
theorem pace_congr {ps : List Int} {t u k : Int} (h : t = u + ps.length * k) : paceOf ps t = paceOf ps u := by
  unfold paceOf
  rw [h, Int.add_mul_emod_self_left]
theorem movP_pace {ps : List Int} (h : 0 < ps.length) (s t : Int) : paceOf (movP ps s) t = paceOf ps (t - s) := by
  have hn : (ps.length : Int) ≠ 0 := by omega
  have h0 := Int.emod_nonneg t hn
  have h1 := Int.emod_lt_of_pos t (show (0 : Int) < ps.length by omega)
  have hd := Int.mul_ediv_add_emod t ps.length
  have e : paceOf (movP ps s) t = paceOf ps (((t % ps.length).toNat : Nat) - s) := by
    conv => lhs; unfold paceOf
    rw [movP_len, List.getD_eq_getElem?_getD]
    unfold movP
    rw [List.getElem?_map, List.getElem?_range (by omega)]
    rfl
  rw [e]
  refine (pace_congr (k := t / ps.length) ?_).symm
  omega
theorem movP_ok {ps : List Int} (hp : Paces ps) (s : Int) : Paces (movP ps s) := by
  refine ⟨fun v hv => ?_, ?_, by rw [movP_len]; exact hp.len0, by rw [movP_len]; exact hp.len1⟩
  · obtain ⟨i, _, rfl⟩ := List.mem_map.mp hv
    exact hp.lo _ (pace_in hp.len0)
  · obtain ⟨v, hv, v0⟩ := hp.pos
    obtain ⟨j, hj, e⟩ := List.getElem_of_mem hv
    have hn : (0 : Int) < ps.length := by omega
    have ej : paceOf ps j = v := by
      unfold paceOf
      rw [Int.emod_eq_of_lt (by omega) (by omega), List.getD_eq_getElem?_getD, show ((j : Int)).toNat = j by omega, List.getElem?_eq_getElem hj, e]
      rfl
    refine ⟨v, ?_, v0⟩
    have : paceOf (movP ps s) (j + s) = v := by
      rw [movP_pace hp.len0, show (j : Int) + s - s = j by omega]
      exact ej
    rw [← this]
    exact pace_in (by rw [movP_len]; exact hp.len0)
theorem movM_fit {ms : List (Int × Int)} (h : Fit ms) (s : Int) : Fit (movM ms s) := by
  refine ⟨?_, fun m hm => ?_, by unfold movM; rw [List.length_map]; exact h.len⟩
  · unfold movM
    rw [List.pairwise_map]
    exact h.asc.imp fun g => by show _ + s < _ + s; omega
  · obtain ⟨m', hm', rfl⟩ := List.mem_map.mp hm
    exact h.val m' hm'
theorem mov_speed {ps : List Int} (h : 0 < ps.length) (ms : List (Int × Int)) (s t : Int) : speedAt (movP ps s) (movM ms s) t = speedAt ps ms (t - s) := by
  induction ms with
  | nil => exact movP_pace h s t
  | cons m ms ih =>
    unfold speedAt movM at *
    rw [List.map_cons, List.find?_cons, List.find?_cons]
    by_cases c : m.1 = t - s
    · rw [decide_eq_true c, decide_eq_true (show m.1 + s = t by omega)]
      rfl
    · rw [decide_eq_false c, decide_eq_false (show ¬ m.1 + s = t by omega)]
      exact ih
/-- a calendar whose speeds are those of ps and ks -/
structure CalOf (C : Addr) (H : Hp) (x l d : Addr) (ps : List Int) (ks rs : List (Int × Int)) : Prop where
  cal : CalAt C H x l d ps rs
  fit : Fit rs
  sp : ∀ t, speedAt ps rs t = speedAt ps ks t
theorem CalOf.same {C : Addr} {H H' : Hp} {x l d : Addr} {ps : List Int} {ks rs : List (Int × Int)} (h : CalOf C H x l d ps ks rs) (f : Same H H') : CalOf C H' x l d ps ks rs := ⟨h.cal.same f, h.fit, h.sp⟩
theorem sumSp_cong {ps : List Int} {rs ks : List (Int × Int)} (h : ∀ t, speedAt ps rs t = speedAt ps ks t) (lo : Int) : ∀ k : Nat, sumSp ps rs lo k = sumSp ps ks lo k
  | 0 => rfl
  | k + 1 => by
    show sumSp ps rs lo k + speedAt ps rs (lo + k) = _
    rw [sumSp_cong h lo k, h]
    rfl
theorem work_cong {ps : List Int} (l0 : 0 < ps.length) {rs ks : List (Int × Int)} (a1 : rs.Pairwise fun a b => a.1 < b.1) (a2 : ks.Pairwise fun a b => a.1 < b.1) (h : ∀ t, speedAt ps rs t = speedAt ps ks t) {t r : Int} (g : t ≤ r) : workOf ps rs t r = workOf ps ks t r := by
  have e1 := work_sum l0 a1 t (r - t).toNat
  have e2 := work_sum l0 a2 t (r - t).toNat
  rw [show t + (((r - t).toNat : Nat) : Int) = r by omega] at e1 e2
  rw [e1, e2, sumSp_cong h]
theorem realFit {ps : List Int} {ms : List (Int × Int)} (h : Fit ms) : Fit (realOf ps ms) := ⟨real_asc h.asc, fun m hm => h.val m (List.mem_filter.mp hm).1, Nat.le_trans (List.length_filter_le _ _) h.len⟩
theorem calOf_real {C : Addr} {H : Hp} {x l d : Addr} {ps : List Int} {ms : List (Int × Int)} (h : CalAt C H x l d ps (realOf ps ms)) (f : Fit ms) : CalOf C H x l d ps ms (realOf ps ms) := ⟨h, realFit f, fun t => speed_real f.asc⟩

structure Blt3 (mg : Str → Option Value) : Prop where
  isi : mg "isinstance" = none
  bool : mg "bool" = none
theorem relTy (n : String) : L2.RelV (.ty n) (.type n) := rfl
theorem end_cong {ps : List Int} (l0 : 0 < ps.length) {rs ks : List (Int × Int)} (a1 : rs.Pairwise fun a b => a.1 < b.1) (a2 : ks.Pairwise fun a b => a.1 < b.1) (h : ∀ t, speedAt ps rs t = speedAt ps ks t) {t a r : Int} (g : IsEnd ps rs t a r) : IsEnd ps ks t a r := by
  refine ⟨g.1, ?_, fun u h1 h2 => ?_⟩
  · rw [← work_cong l0 a1 a2 h g.1]
    exact g.2.1
  · rw [← work_cong l0 a1 a2 h h1]
    exact g.2.2 u h1 h2
theorem work_self (ps : List Int) (ms : List (Int × Int)) (t : Int) : workOf ps ms t t = 0 := by
  unfold workOf
  rw [gain_nil]
  omega

/-! ### own errors with the attribute value -/
section
open PySem.W PySem.Calls
variable {prog : Program} {w : World} {A : Around} {E : Value → Shared → Prop} {s : Shared} {K : Frag} {x D : Addr} {ox : Obj} {od : Obj}
theorem kin_classX {Q : Option Value → Shared → Prop} (hga : findIn K (.ref D) "__getattribute__" = some (some (.builtin "BaseException.__getattribute__"))) (hgt : findIn K (.ref D) "__getattr__" = some none) (hsub : subIn K (.ref D) (.type "BaseException") = some true)
    (hdct : hasDictIn K D = true) (ha : findIn K (.ref D) "__class__" = some (some (.builtin "object.__class__")))
    (hn : specialIn K (.builtin "object.__class__") "__get__" = some (some (.builtin "getset_descriptor.__get__"))) (htk : takesIn K (.builtin "object.__class__") = some true) (hm : mroIn K D (.type "object") = some true)
    (X : K.In s.heap) (I : InstAt s.heap x ox D (some od)) (h : Q (some (.ref D)) { s with toks := s.toks + 1 }) : wpAny (model prog w) A (getAttr? (.ref x) "__class__") Q E s := by
  have hf : findObj K D (some od) "__class__" = some (.bind (.builtin "getset_descriptor.__get__") (.builtin "object.__class__")) := findObj_data (by obtain ⟨cd, hc, _⟩ := any_some hdct; rw [hc]; rfl) ha hn htk
  obtain ⟨hp, g, d, t, os⟩ := s
  have L0 := I.type (M := model prog w)
  have L1 := looks_findIn (M := model prog w) X hga
  have L2 := looks_findIn (M := model prog w) X hgt
  have L3 := looks_find (M := model prog w) X I hf
  have sub : Looks (model prog w) hp (isInstance (.ref x) (.type "BaseException")) true := L0.andThen (looks_subIn X hsub)
  have hx0 : (false && onTheHeap (Value.builtin "BaseException.__getattribute__")) = false := rfl
  have hx2 : (Value.builtin "BaseException.__getattribute__" == Value.builtin "object.__getattribute__") = false := by decide +kernel
  have hx1 : (onTheHeap (Value.ref D) && Value.builtin "BaseException.__getattribute__" == Value.builtin "object.__getattribute__") = false := by rw [hx2]; rfl
  unfold getAttr? getAttrBy? getAttrBy
  refine wpAny_bind (wpAny_mkText (wpAny_bind (wpAny_attempt (wpAny_holding (wpAny_bind (L0.at (wpAny_bind (L1.at ?_))))))))
  show wpAny _ _ (if (onTheHeap (Value.ref D) && Value.builtin "BaseException.__getattribute__" == Value.builtin "object.__getattribute__") = true then _ else _) _ _ _
  rw [hx1, if_neg Bool.false_ne_true]
  unfold getAttrByItsOwn hookBefore
  refine wpAny_bind ?_
  rw [if_pos (show onTheHeap (Value.ref D) = true from rfl)]
  refine L2.at ?_
  refine wpAny_bind (wpAny_attempt (wpAny_holding ?_))
  unfold callGetattribute
  rw [hx0, if_neg Bool.false_ne_true]
  unfold boundAndCalled
  rw [PySem.F.excAttr_ValueError.ga.bind (.ref x)]
  refine wpAny_bind (wpAny_pure ?_)
  show wpAny _ _ (call (.builtin "BaseException.__getattribute__") [.ref x, .str "__class__" t]) _ _ _
  refine wpAny_call (codeAny_call_builtin PySem.F.excAttr_ValueError.ga.plain PySem.F.entry_bexc_ga ?_)
  refine @check_slot (model prog w) _ _ ⟨hp, g, d, t + 1, os⟩ "BaseException.__getattribute__" "BaseException" "__getattribute__" (.ref x) [.str "__class__" t] [] _ (by decide +kernel) (by decide +kernel) sub (PySem.F.args_bexc_ga (.ref x) (.str "__class__" t)) ?_
  unfold Builtin.«object.__getattribute__»
  refine wpAny_bind (wpAny_of_eq (a := ((Value.ref x : Value), [Value.str "__class__" t])) (by first | rfl | (simp only [slotArgs]; rfl)) ?_)
  refine wpAny_bind (wpAny_pure (wpAny_bind (L0.at (wpAny_bind (L3.at ?_)))))
  show wpAny _ _ (holding [Value.builtin "object.__class__"] (call (.builtin "getset_descriptor.__get__") [.builtin "object.__class__", .ref x, .ref D]) >>= ret) _ _ _
  refine wpAny_bind (wpAny_holding (wpAny_call (class_get (s := ⟨hp, g, d, t + 1, os⟩) (ox := ox) (od := some od) X I hm ?_)))
  refine wpAny_pure ?_
  show wpAny _ _ (handedOut (.ref D)) _ _ _
  rw [handedOut_of (v := .ref D) rfl]
  first
    | exact wpAny_pure (wpAny_pure h)
    | exact wpAny_pure h
    | exact wpAny_pure (wpAny_bind (wpAny_pure (wpAny_pure h)))
theorem kitx_excX (hga : findIn K (.ref D) "__getattribute__" = some (some (.builtin "BaseException.__getattribute__"))) (hgt : findIn K (.ref D) "__getattr__" = some none) (hsub : subIn K (.ref D) (.type "BaseException") = some true) (hdct : hasDictIn K D = true) (ha : findIn K (.ref D) "__class__" = some (some (.builtin "object.__class__")))
    (hn : specialIn K (.builtin "object.__class__") "__get__" = some (some (.builtin "getset_descriptor.__get__"))) (htk : takesIn K (.builtin "object.__class__") = some true) (hm : mroIn K D (.type "object") = some true) :
    KitX K (.ref x) (.ref D) (fun h => InstAt h x ox D (some od)) where
  ty := fun _ _ _ I => I.type
  it := fun _ _ X _ => by
    obtain ⟨cdD, hcD, _⟩ := any_some hdct
    unfold clsIn at hcD
    split at hcD
    · rename_i c' d' cd' sl' ho
      intro A' Q' E' s' k q
      unfold isType loadHead
      exact wpAny_bind (wpAny_loadPart (k _ _ (X _ _ ho)) (wpAny_pure q))
    · cases hcD
  ne := fun h tp dd its n sl X htp => by
    obtain ⟨cdD, hcD, _⟩ := any_some hdct
    refine Bool.eq_false_iff.mpr fun q => ?_
    have e : D = tp := Value.ref.inj (beq_iff_eq.mp q)
    subst e
    unfold clsIn at hcD
    split at hcD
    · rename_i c' d' cd' sl' ho
      have z := (X _ _ ho).symm.trans htp
      cases z
    · cases hcD
  ca := fun X I k => kin_classX hga hgt hsub hdct ha hn htk hm X I k
end
/-- what the top has written of an own error class: it stands at C, its __init__ is the def at fI -/
structure ErrC (K : PySem.W.Frag) (C fI : Addr) : Prop where
  ox : OexC K C
  noV : PySem.W.findIn K (.ref C) "value" = some none
  iC : PySem.W.findIn K (.ref C) "__init__" = some (some (.ref fI))
  xc : ExcC K C
/-- the error that the suite holds: at a, of the class D, its value v -/
def HeldE (K : PySem.W.Frag) (cls : Value) (d : Option Addr) (v : V) (D fI : Addr) (H : Hp) : Prop := cls = .ref D ∧ ErrC K D fI ∧ ∃ dd, d = some dd ∧ H dd = some (.xd [(("value" : Str), v)])
def rIsX (K : PySem.W.Frag) (a : Addr) (cls : Value) (d : Option Addr) : List V → Hp → VK → Prop := fun xs H Q => ∃ (D fI : Addr) (v c : V) (cv : Value) (b : Bool), xs = [.ref a, c] ∧ HeldE K cls d v D fI H ∧ (∀ u, RelV c u → u = cv) ∧ PySem.W.kitOne K (.ref D) cv = some b ∧ Q (.bl b) H
theorem call_isX {X : Cx} {a : Addr} {oe : Obj} {cls : Value} {d : Option Addr} {pn : List (Addr × Obj)} (hz : Zc cls d oe) (hf : ∃ vs, oe.data = .fields vs) : CallR (X.suite a ((a, oe) :: pn)) (.builtin "isinstance") (rIsX X.K a cls d) := by
  intro pins s σ H xs us Q I r h
  obtain ⟨D, fI, v, c, cv, b, rfl, ⟨rfl, C, dd, rfl, ea⟩, hcv, e, q⟩ := h
  cases r with
  | cons rx rr =>
    cases rr with
    | cons rt rr =>
      cases rr
      cases rx
      have ec := hcv _ rt
      subst ec
      obtain ⟨hget, _⟩ := I.pin (a, oe) (List.mem_append.mpr (.inl List.mem_cons_self))
      obtain ⟨vs, hd⟩ := hf
      have hx : ObjOk X.prog X.w H s.heap dd (.xd [(("value" : Str), v)]) := I.hok dd _ ea
      obtain ⟨mA, hns, hr⟩ := hx
      obtain ⟨od, ho, hl⟩ := lookIn_ns hns
      have J : PySem.W.InstAt s.heap a oe D (some od) := ⟨hget, hz.1, by unfold PySem.W.notCls; rw [hd] <;> rfl, by rw [hz.2]; exact ho⟩
      exact PySem.W.kia_one (kitx_excX C.xc.hg C.xc.hk C.xc.hs C.xc.hd C.xc.ha C.xc.hn C.xc.ht C.xc.hm) I.kIn J e (fun z => nomatch z) fun tk => ⟨.bl b, H, I.kept (t' := tk) fun _ _ z => z, rfl, q⟩
/-- e.value -/
def tVal (K : PySem.W.Frag) (a : Addr) (cls : Value) (d : Option Addr) (te : TE) : TE := fun σ H Q => te σ H fun x H1 => x = .ref a ∧ ∃ (D fI : Addr) (v : V), HeldE K cls d v D fI H1 ∧ Q v H1
theorem pe_val {X : Cx} {a : Addr} {oe : Obj} {cls : Value} {d : Option Addr} {pn : List (Addr × Obj)} {e : Expr} {te : TE} {pos : Pos} (hz : Zc cls d oe) (hf : ∃ vs, oe.data = .fields vs) (he : PE (X.suite a ((a, oe) :: pn)) e te)
    (hb : attributeBase e "value" X.env (eval e X.env) = eval e X.env := by rfl) : PE (X.suite a ((a, oe) :: pn)) (.Attribute e "value" pos) (tVal X.K a cls d te) := by
  refine ⟨fun pins s σ H Q I h => ?_⟩
  refine attr_of hb (thn (he.run pins s σ H _ I h) fun u s1 hh => ?_)
  obtain ⟨x, H1, I1, rx, ex, D, fI, v, ⟨ec, C, dd, ed, ea⟩, q⟩ := hh
  subst ex
  obtain rfl : u = Value.ref a := rx
  subst ec
  subst ed
  obtain ⟨ha, _⟩ := I1.pin (a, oe) (List.mem_append_left _ List.mem_cons_self)
  obtain ⟨vs, hd⟩ := hf
  have hx : ObjOk X.prog X.w H1 s1.heap dd (.xd [(("value" : Str), v)]) := I1.hok dd _ ea
  obtain ⟨mA, hns, hr⟩ := hx
  obtain ⟨od, ho, hl⟩ := lookIn_ns hns
  have l : List.lookup ("value" : Str) [(("value" : Str), v)] = some v := by simp [List.lookup]
  obtain ⟨u, hu, ru⟩ := RelO.some_of (v := v) (o := mA "value") (by rw [← l]; exact hr "value")
  have J : PySem.W.InstAt s1.heap a oe D (some od) := ⟨ha, hz.1, by unfold PySem.W.notCls; rw [hd] <;> rfl, by rw [hz.2]; exact ho⟩
  exact HandSPX.exc_get I1.kIn J C.xc.hg C.xc.hk C.xc.hs (PySem.W.findObj_own C.xc.hd C.noV rfl (by rw [hl, hu])) (handed_of ru) ⟨v, H1, I1.tok _, ru, q⟩
/-! ### C(e, ..) that may raise, wished for at the slots -/
section
variable {X : Cx} {CX : CXT} {k : Nat} {f C : Addr} {fd : FuncData} {ps : List Str} {sp : Sp} {E : L2.St → XK} {x : Str} {p pos : Pos} {e : Expr} {es : List Expr} {t : TA} {ds : List Value} {dvs : List V}
def tMakeS (C : Addr) (sp : Sp) (dvs : List V) (E : L2.St → XK) (t : TA) : TE := fun σ H Q => t σ H fun vs H1 => ∀ x dx, H1 x = none → H1 dx = none → dx ≠ x →
  sp (.ref x :: (vs ++ dvs)) (upd (upd H1 dx (.own x)) x (.ins C dx [])) (fun v H2 => v = .non ∧ Q (.ref x) H2) (E σ)
theorem pe_makeS (M : Mk X.K C f) (F : FnOk X.prog X.w X.K X.mg X.base CX k f fd ps sp) (hr : Room (k + 1) X.A) (hg : Gl X x) (hm : X.mg x = some (.ref C)) (hb : Binds X.K fd ps ds) (hd : Vals dvs ds) (hx : ∀ σ, PassesAt CX X σ (E σ))
    (ha : PA X (e :: es) t) (hdb : (x == ("__debug__" : Str)) = false := by decide) (he : starEach (e :: es) X.env = (false, eval e X.env) :: starEach es X.env := by rfl) (hpl : (backTo pos (starEach es X.env)).any (·.1) = false := by rfl) :
    PE X (.Call (.Name x p) (e :: es) [] pos) (tMakeS C sp dvs E t) := by
  refine ⟨fun pins s σ H Q I h => ?_⟩
  refine wpAny_Call_Name_kw (ld_glob I hg hm ?_ hdb)
  refine PySem.W.callWith_K (h₀ := X.base) I.ok.mod.kin M.kp (thn (ha.run pos pins s σ H _ I h) fun us s1 ⟨vs, H1, I1, r, q⟩ => ⟨I1.kIn, ?_⟩) he hpl
  have hq := q (s1.heap.objs.size + 1) s1.heap.objs.size (I1.hok.fresh (Nat.le_succ _)) (I1.hok.fresh (Nat.le_refl _)) (Nat.ne_of_lt (Nat.lt_succ_self _))
  have I2 := Inv.made (C := C) I1
  have r2 : Vals (V.ref (s1.heap.objs.size + 1) :: (vs ++ dvs)) (Value.ref (s1.heap.objs.size + 1) :: (us ++ ds)) := .cons rfl (r.append hd)
  have hl : (Value.ref (s1.heap.objs.size + 1) :: us ++ ds).length = ps.length := by
    have e := r2.length
    rw [F.len _ _ _ _ hq] at e
    exact e.symm
  refine wpAny_call (make_map (f := f) I1.kIn M.makes M.init (beq_iff_eq.mp M.fn) (codeAny_mono (F.run _ X.stack _ _ ⟨Value.ref (s1.heap.objs.size + 1) :: us, []⟩ (Value.ref (s1.heap.objs.size + 1) :: (us ++ ds)) _ _ (E σ) (hr.make C us [])
    (I2.env0.make C us []) (hb _ (Value.ref (s1.heap.objs.size + 1) :: us) I2.kIn hl) r2 hq) fun r s' hq' => ?_))
  cases r with
  | error e => exact hx σ pins _ _ e s' I2 hq'
  | ok fl =>
    cases fl with
    | ret u =>
      obtain ⟨v, H', I3, rv, ev, q3⟩ := I2.after hq'
      subst ev
      exact ⟨rv, ⟨V.ref (s1.heap.objs.size + 1), H', I3, rfl, q3⟩⟩
    | next => exact False.elim hq'
    | brk => exact False.elim hq'
    | cont => exact False.elim hq'
end
/-! ### the errors' __init__ -/
def spErr (K : PySem.W.Frag) : Sp := fun vs H Q _ => ∃ (a C : Addr) (v : V), vs = [.ref a, v] ∧ OexC K C ∧ PySem.W.findIn K (.ref C) "value" = some none ∧ H a = some (exo a C none) ∧
  ∀ dx, H dx = none → dx ≠ a → Q .non (upd (upd H dx (exd dx [(("value" : Str), v)])) a (exo a C (some dx)))
section
variable {P : Program} {w : World} {K : PySem.W.Frag} {mg : Str → Option Value} {base : Heap}
theorem scErr : FnScope ["self", "value"] ["self", "value"] (defScope sErr) := ⟨rfl, rfl, rfl, by decide +kernel, rfl, by decide +kernel, by decide +kernel⟩
theorem ok_err {f : Addr} {fd : FuncData} (F : Fun K "__init__" "DueError.__init__" sErr f fd) : FnOk P w K mg base CX0 1 f fd ["self", "value"] (spErr K) := by
  refine F.ok scErr (fun vs H Q E h => ?_) (fun cdv A outer s H vs Q E hr h => ?_)
  · obtain ⟨a, C, v, rfl, _⟩ := h
    rfl
  · obtain ⟨a, C, v, rfl, ox, nv, ha, k⟩ := h
    refine ⟨_, pss_one (ps_ost (pv 0) (pv 1)), ?_⟩
    exact ⟨_, rfl, _, rfl, a, C, rfl, ox, nv, .inl ⟨ha, fun dx nd ne => k dx nd ne⟩⟩
end
/-- an error is made: what its raising asks -/
theorem err_made {K : PySem.W.Frag} {C a : Addr} {v : V} {H1 : Hp} {Q : XK} {E : XK} (ox : OexC K C) (nv : PySem.W.findIn K (.ref C) "value" = some none) (na : H1 a = none)
    (k : ∀ (d : Addr) (H' : Hp), Same H1 H' → H1 d = none → H' d = some (.xd [(("value" : Str), v)]) → Q (.ref C) (some d) H') :
    spErr K [.ref a, v] (upd H1 a (exo a C none)) (fun v H2 => v = .non ∧ ∃ (d : Addr) (fs : List (Str × V)), H2 a = some (exo a C (some d)) ∧ H2 d = some (exd d fs) ∧ H1 d = none ∧ Q (.ref C) (some d) (upd (del H2 a) d (.xd fs))) E := by
  refine ⟨a, C, v, rfl, ox, nv, upd_same, fun dx nd ne => ⟨rfl, dx, [(("value" : Str), v)], upd_same, ?_, ?_, ?_⟩⟩
  · rw [upd_ne ne]
    exact upd_same
  · rw [upd_ne ne] at nd
    exact nd
  · have nd' : H1 dx = none := by
      rw [upd_ne ne] at nd
      exact nd
    refine k dx _ (fun b o e => ?_) nd' upd_same
    have b1 : b ≠ dx := ne_of_none e nd'
    have b2 : b ≠ a := ne_of_none e na
    rw [upd_ne b1, del_ne b2, upd_ne b2, upd_ne b1, upd_ne b2]
    exact e

/-! ### defs that may raise, called where they don't -/
theorem calmOk {P : Program} {w : World} {K : PySem.W.Frag} {mg : Str → Option Value} {base : Heap} {k : Nat} {f : Addr} {fd : FuncData} {ps : List Str} {sp sp' : Sp} (F : FnOk P w K mg base (L2.CX P w) k f fd ps sp)
    (h : ∀ vs H Q E, sp' vs H Q E → sp vs H Q E0) : FnOk P w K mg base CX0 k f fd ps sp' := by
  refine ⟨fun vs H Q E q => F.len vs H Q E0 (h _ _ _ _ q), fun A outer s H args us vs Q E hr he hb hv hs => ?_⟩
  refine codeAny_mono (F.run A outer s H args us vs Q E0 hr he hb hv (h _ _ _ _ hs)) fun res s2 hq => ?_
  rcases res with er | fl
  · obtain ⟨a, B, H', cls, d, _, _, _, _, _, _, _, z⟩ := hq
    exact z.elim
  · cases fl <;> exact hq
/-- an own error class that the program raises -/
structure EC (K : PySem.W.Frag) (mg : Str → Option Value) (x : Str) (C fI : Addr) : Prop where
  e : ErrC K C fI
  g : mg x = some (.ref C)
structure ErI (P : Program) (w : World) (K : PySem.W.Frag) (mg : Str → Option Value) (base : Heap) (fI : Addr) (fd : FuncData) : Prop where
  ok : FnOk P w K mg base CX0 1 fI fd ["self", "value"] (spErr K)
  bi : Binds K fd ["self", "value"] []
  tI : PySem.W.typeIn K (.ref fI) = some (.type "function")
def Rais (H : Hp) (E : XK) (C : Addr) (v : V) : Prop := ∀ (d : Addr) (H' : Hp), Same H H' → H d = none → H' d = some (.xd [(("value" : Str), v)]) → E (.ref C) (some d) H'
theorem Rais.same {H J : Hp} {E : XK} {C : Addr} {v : V} (h : Rais H E C v) (s : Same H J) : Rais J E C v := fun d H' s' nd hd => h d H' (s.trans s') (s.free nd) hd
structure AtX (P : Program) (w : World) (K : PySem.W.Frag) (mg : Str → Option Value) (base : Heap) (k : Nat) (x : Str) (ps : List Str) (sp : Sp) (f : Addr) (fd : FuncData) : Prop where
  ok : FnOk P w K mg base (L2.CX P w) k f fd ps sp
  at_ : mg x = some (.ref f)
  kp : PySem.W.keepIn K (.ref f) = true
  bi : Binds K fd ps []
def spAmountX (CA : Addr) : Sp := fun vs H Q E => ∃ a : Int, vs = [.int a] ∧ (a < 0 → Rais H E CA (.int a)) ∧ (0 ≤ a → Q .non H)
section
variable {P : Program} {w : World} {K : PySem.W.Frag} {mg : Str → Option Value} {base : Heap}
theorem scAmountX : FnScope ["amount"] ["amount"] (defScope sAmount) := ⟨rfl, rfl, rfl, by decide +kernel, rfl, by decide +kernel, by decide +kernel⟩
theorem ok_amountX {f fE CA : Addr} {fd dE : FuncData} (F : Fun K "check_amount" "check_amount" sAmount f fd) (R : EC K mg "InvalidAmount" CA fE) (I : ErI P w K mg base fE dE) : FnOk P w K mg base (L2.CX P w) 3 f fd ["amount"] (spAmountX CA) := by
  refine F.okX scAmountX (fun vs H Q E h => ?_) (fun cdv A outer s H vs Q E hr h => ?_)
  · obtain ⟨a, rfl, _⟩ := h
    rfl
  · obtain ⟨a, rfl, kx, k⟩ := h
    refine ⟨_, pss_one (ps_if (pt_cmpR op_lt (pv 0) pe_int (nomark _)) (pss_one (ps_raise rfl (takes_of rfl rfl rfl rfl) (pmk_oex R.e.ox R.e.iC I.tI I.ok hr I.bi .nil pass0 (by rfl) R.g (pa_cons (pv 0) pa_nil)))) pss_nil), ?_⟩
    refine ⟨_, rfl, _, _, rfl, rfl, _, rfl, ite2 (fun e => ?_) (fun e => k ?_)⟩
    · exact ⟨_, rfl, (by show 1 ≤ 1000; decide), fun x nx => err_made R.e.ox R.e.noV nx (kx (of_decide_eq_true e))⟩
    · rcases Int.lt_or_le a 0 with c | c
      · exact absurd (decide_eq_true c) e
      · exact c
end

/-! ### tickets: what stands in memory -/
def stageF (x : Addr) (am b : Int) (st : Bool) : List (Str × V) := putF "still" (.bl st) (putF "begin" (.int b) (putF "amount" (.int am) (putF "calendar" (.ref x) [])))
def tickF (q st sg : Addr) (most : V) : List (Str × V) := putF "_most" most (putF "_stages" (.ref sg) (putF "_story" (.ref st) (putF "_asked" (.ref q) [])))
theorem stageF_c (x : Addr) (am b : Int) (st : Bool) : (stageF x am b st).lookup ("calendar" : Str) = some (.ref x) := by
  unfold stageF
  rw [lookup_putF, if_neg (by decide +kernel), lookup_putF, if_neg (by decide +kernel), lookup_putF, if_neg (by decide +kernel), lookup_putF, if_pos rfl]
theorem stageF_a (x : Addr) (am b : Int) (st : Bool) : (stageF x am b st).lookup ("amount" : Str) = some (.int am) := by
  unfold stageF
  rw [lookup_putF, if_neg (by decide +kernel), lookup_putF, if_neg (by decide +kernel), lookup_putF, if_pos rfl]
theorem stageF_b (x : Addr) (am b : Int) (st : Bool) : (stageF x am b st).lookup ("begin" : Str) = some (.int b) := by
  unfold stageF
  rw [lookup_putF, if_neg (by decide +kernel), lookup_putF, if_pos rfl]
theorem stageF_s (x : Addr) (am b : Int) (st : Bool) : (stageF x am b st).lookup ("still" : Str) = some (.bl st) := by
  unfold stageF
  rw [lookup_putF, if_pos rfl]
theorem tickF_q (q st sg : Addr) (most : V) : (tickF q st sg most).lookup ("_asked" : Str) = some (.ref q) := by
  unfold tickF
  rw [lookup_putF, if_neg (by decide +kernel), lookup_putF, if_neg (by decide +kernel), lookup_putF, if_neg (by decide +kernel), lookup_putF, if_pos rfl]
theorem tickF_st (q st sg : Addr) (most : V) : (tickF q st sg most).lookup ("_story" : Str) = some (.ref st) := by
  unfold tickF
  rw [lookup_putF, if_neg (by decide +kernel), lookup_putF, if_neg (by decide +kernel), lookup_putF, if_pos rfl]
theorem tickF_sg (q st sg : Addr) (most : V) : (tickF q st sg most).lookup ("_stages" : Str) = some (.ref sg) := by
  unfold tickF
  rw [lookup_putF, if_neg (by decide +kernel), lookup_putF, if_pos rfl]
theorem tickF_m (q st sg : Addr) (most : V) : (tickF q st sg most).lookup ("_most" : Str) = some most := by
  unfold tickF
  rw [lookup_putF, if_pos rfl]
theorem tickF_no (q st sg : Addr) (most : V) {m : Str} (h1 : ¬ m = "_most") (h2 : ¬ m = "_stages") (h3 : ¬ m = "_story") (h4 : ¬ m = "_asked") : (tickF q st sg most).lookup m = none := by
  unfold tickF
  rw [lookup_putF, if_neg h1, lookup_putF, if_neg h2, lookup_putF, if_neg h3, lookup_putF, if_neg h4]
  rfl
/-- a stage: where it stands, its calendar, amount, begin, whether it is still -/
structure SD where
  (a x l d : Addr) (ps : List Int) (ms : List (Int × Int)) (am b : Int) (st : Bool)
structure SdAt (C S : Addr) (H : Hp) (g : SD) : Prop where
  ob : ∃ dx, H g.a = some (.ins S dx (stageF g.x g.am g.b g.st))
  cal : CalAt C H g.x g.l g.d g.ps g.ms
  hp : Paces g.ps
  fit : Fit g.ms
theorem SdAt.same {C S : Addr} {H J : Hp} {g : SD} (h : SdAt C S H g) (f : Same H J) : SdAt C S J g := by
  obtain ⟨⟨dx, o⟩, c, p, t⟩ := h
  exact ⟨⟨dx, f _ _ o⟩, c.same f, p, t⟩
/-- a ticket at x: its story's list at st, its stages' list at sg; the stages are gs -/
structure TkAt (C T S : Addr) (H : Hp) (x st sg : Addr) (most : V) (x0 : Addr) (a0 t0 : Int) (es : List Addr) (gs : List SD) : Prop where
  ob : ∃ q dx, H x = some (.ins T dx (tickF q st sg most)) ∧ H q = some (.tup [.ref x0, .int a0, .int t0])
  sy : H st = some (.lst (es.map V.ref))
  sl : H sg = some (.lst (gs.map fun g => V.ref g.a))
  ne : st ≠ sg
  sa : ∀ g ∈ gs, SdAt C S H g
theorem TkAt.same {C T S : Addr} {H J : Hp} {x st sg : Addr} {most : V} {x0 : Addr} {a0 t0 : Int} {es : List Addr} {gs : List SD} (h : TkAt C T S H x st sg most x0 a0 t0 es gs) (f : Same H J) : TkAt C T S J x st sg most x0 a0 t0 es gs := by
  obtain ⟨⟨q, dx, o, a⟩, s1, s2, n, s3⟩ := h
  exact ⟨⟨q, dx, f _ _ o, f _ _ a⟩, f _ _ s1, f _ _ s2, n, fun g hg => (s3 g hg).same f⟩
/-- the classes as the top has made them -/
structure StC (K : PySem.W.Frag) (mg : Str → Option Value) (S : Addr) : Prop where
  cl : Cls K S
  nc : NoAttr K S "calendar"
  na : NoAttr K S "amount"
  nb : NoAttr K S "begin"
  ns : NoAttr K S "still"
  at_ : mg "Stage" = some (.ref S)
structure TkC (K : PySem.W.Frag) (T : Addr) : Prop where
  cl : Cls K T
  nq : NoAttr K T "_asked"
  nt : NoAttr K T "_story"
  ng : NoAttr K T "_stages"
  nm : NoAttr K T "_most"
def spStI (S : Addr) : Sp := fun vs H Q _ => ∃ (s dx x : Addr) (am b : Int) (st : Bool), vs = [.ref s, .ref x, .int am, .int b, .bl st] ∧ H s = some (.ins S dx []) ∧
  ∀ H', H' s = some (.ins S dx (stageF x am b st)) → (∀ c, c ≠ s → H' c = H c) → Q .non H'
theorem stg_made {S : Addr} {H : Hp} {s dx x : Addr} {am b : Int} {st : Bool} {vs : List V} {R : VK} {E : XK} (hv : vs = [.ref s, .ref x, .int am, .int b, .bl st]) (nx : H s = none) (ndx : H dx = none)
    (k : ∀ H', H' s = some (.ins S dx (stageF x am b st)) → Same H H' → (∀ c, H' c = none → H c = none) → R .non H') : spStI S vs (upd (upd H dx (.own s)) s (.ins S dx [])) R E := by
  have s0 : Same H (upd (upd H dx (.own s)) s (.ins S dx [])) := fun c o e => by
    rw [upd_ne (ne_of_none e nx), upd_ne (ne_of_none e ndx)]
    exact e
  refine ⟨s, dx, x, am, b, st, hv, upd_same, fun H' h1 h2 => k H' h1 (fun c o e => ?_) fun c e => ?_⟩
  · rw [h2 c (ne_of_none e nx)]
    exact s0 c o e
  · cases e2 : H c with
    | none => rfl
    | some o =>
      have := s0 c o e2
      rw [h2 c (ne_of_none e2 nx), this] at e
      cases e
/-- C S: the classes of calendars and stages -/
def spTkIX (C T S CA : Addr) : Sp := fun vs H Q E => ∃ (x dx c l d : Addr) (ps : List Int) (ms : List (Int × Int)) (am t : Int), vs = [.ref x, .ref c, .int am, .int t] ∧ H x = some (.ins T dx []) ∧ CalAt C H c l d ps ms ∧ Paces ps ∧ Fit ms ∧ c ≠ x ∧
  (am < 0 → Rais H E CA (.int am)) ∧
  (0 ≤ am → ∀ H' st sg s, TkAt C T S H' x st sg .non c am t [] [⟨s, c, l, d, ps, ms, am, t, false⟩] → H st = none → H sg = none → (∀ c o, H c = some o → c ≠ x → H' c = some o) → Q .non H')
def Fr1 (x : Addr) (H H' : Hp) : Prop := ∀ c o, H c = some o → c ≠ x → H' c = some o
def spTkMoment (C T S : Addr) : Sp := fun vs H Q _ => ∃ (x st sg : Addr) (most : V) (x0 : Addr) (a0 t0 : Int) (es : List Addr) (gs : List SD) (g : SD), vs = [.ref x] ∧ TkAt C T S H x st sg most x0 a0 t0 es (gs ++ [g]) ∧ Q (.int g.b) H
def spTkLeft (C T S : Addr) : Sp := fun vs H Q _ => ∃ (x st sg : Addr) (most : V) (x0 : Addr) (a0 t0 : Int) (es : List Addr) (gs : List SD) (g : SD), vs = [.ref x] ∧ TkAt C T S H x st sg most x0 a0 t0 es (gs ++ [g]) ∧ Q (.int g.am) H
def spTkPaused (C T S : Addr) : Sp := fun vs H Q _ => ∃ (x st sg : Addr) (most : V) (x0 : Addr) (a0 t0 : Int) (es : List Addr) (gs : List SD) (g : SD), vs = [.ref x] ∧ TkAt C T S H x st sg most x0 a0 t0 es (gs ++ [g]) ∧ Q (.bl g.st) H
/-- what is left of a stage at a moment -/
def leftOf (g : SD) (t : Int) : Int := if g.st = true then g.am else if g.am - workOf g.ps g.ms g.b t > 0 then g.am - workOf g.ps g.ms g.b t else 0
def spTkLeftAt (C T S CM : Addr) : Sp := fun vs H Q E => ∃ (x st sg : Addr) (most : V) (x0 : Addr) (a0 t0 : Int) (es : List Addr) (gs : List SD) (g : SD) (t : Int), vs = [.ref x, .int t] ∧ TkAt C T S H x st sg most x0 a0 t0 es (gs ++ [g]) ∧
  (t < g.b → Rais H E CM (.int t)) ∧ (g.b ≤ t → ∀ H', Same H H' → Q (.int (leftOf g t)) H')
def spTkLeftAtC (C T S : Addr) : Sp := fun vs H Q _ => ∃ (x st sg : Addr) (most : V) (x0 : Addr) (a0 t0 : Int) (es : List Addr) (gs : List SD) (g : SD) (t : Int), vs = [.ref x, .int t] ∧ TkAt C T S H x st sg most x0 a0 t0 es (gs ++ [g]) ∧
  g.b ≤ t ∧ (∀ H', Same H H' → Q (.int (leftOf g t)) H')
def spTkDone (C T S : Addr) : Sp := fun vs H Q _ => ∃ (x st sg : Addr) (most : V) (x0 : Addr) (a0 t0 : Int) (es : List Addr) (gs : List SD) (g : SD), vs = [.ref x] ∧ TkAt C T S H x st sg most x0 a0 t0 es (gs ++ [g]) ∧ 0 ≤ g.am ∧
  (g.st = true → Q .non H) ∧ (g.st = false → ∀ (r : Int) (H' : Hp), IsEnd g.ps g.ms g.b g.am r → Same H H' → Q (.int r) H')
def spTkStory (C T S : Addr) : Sp := fun vs H Q _ => ∃ (x st sg : Addr) (most : V) (x0 : Addr) (a0 t0 : Int) (es : List Addr) (gs : List SD), vs = [.ref x] ∧ TkAt C T S H x st sg most x0 a0 t0 es gs ∧
  ∀ q, H q = none → Q (.ref q) (upd H q (.lst (es.map V.ref)))
def spTkLen (C T S : Addr) : Sp := fun vs H Q _ => ∃ (x st sg : Addr) (most : V) (x0 : Addr) (a0 t0 : Int) (es : List Addr) (gs : List SD), vs = [.ref x] ∧ TkAt C T S H x st sg most x0 a0 t0 es gs ∧ Q (.int (es.length : Nat)) H
section
variable {P : Program} {w : World} {K : PySem.W.Frag} {mg : Str → Option Value} {base : Heap}
theorem scStageI : FnScope ["self", "calendar", "amount", "begin", "still"] ["self", "calendar", "amount", "begin", "still"] (defScope sStageI) := ⟨rfl, rfl, rfl, by decide +kernel, rfl, by decide +kernel, by decide +kernel⟩
theorem ok_stageI {f S : Addr} {fd : FuncData} (F : Fun K "__init__" "Stage.__init__" sStageI f fd) (Z : StC K mg S) : FnOk P w K mg base CX0 1 f fd ["self", "calendar", "amount", "begin", "still"] (spStI S) := by
  refine F.ok scStageI (fun vs H Q E h => ?_) (fun cdv A outer s H vs Q E hr h => ?_)
  · obtain ⟨s, dx, x, am, b, st, rfl, _⟩ := h
    rfl
  · obtain ⟨s, dx, x, am, b, st, rfl, hx, k⟩ := h
    refine ⟨_, pss_cons (ps_fld (pv 0) (pv 1) rfl) (pss_cons (ps_fld (pv 0) (pv 2) rfl) (pss_cons (ps_fld (pv 0) (pv 3) rfl) (pss_one (ps_fld (pv 0) (pv 4) rfl)))), ?_⟩
    refine ⟨_, rfl, _, rfl, s, S, dx, _, rfl, hx, Z.cl, Z.nc, (by show 0 < 1000; decide), ?_⟩
    refine ⟨_, rfl, _, rfl, s, S, dx, _, rfl, upd_same, Z.cl, Z.na, (by show 1 < 1000; decide), ?_⟩
    refine ⟨_, rfl, _, rfl, s, S, dx, _, rfl, upd_same, Z.cl, Z.nb, (by show 2 < 1000; decide), ?_⟩
    refine ⟨_, rfl, _, rfl, s, S, dx, _, rfl, upd_same, Z.cl, Z.ns, (by show 3 < 1000; decide), ?_⟩
    exact k _ upd_same fun c g => by rw [upd_ne g, upd_ne g, upd_ne g, upd_ne g]
theorem scTkI : FnScope ["self", "calendar", "amount", "moment"] ["self", "calendar", "amount", "moment"] (defScope sTkI) := ⟨rfl, rfl, rfl, by decide +kernel, rfl, by decide +kernel, by decide +kernel⟩
theorem ok_tkIX {f fA fS C T S CA : Addr} {fd dA dS : FuncData} (F : Fun K "__init__" "Ticket.__init__" sTkI f fd) (Z : StC K mg S) (Y : TkC K T) (Am : AtX P w K mg base 3 "check_amount" ["amount"] (spAmountX CA) fA dA)
    (MS : Mk K S fS) (GS : FnOk P w K mg base CX0 1 fS dS ["self", "calendar", "amount", "begin", "still"] (spStI S)) (bS : Binds K dS ["self", "calendar", "amount", "begin", "still"] []) :
    FnOk P w K mg base (L2.CX P w) 4 f fd ["self", "calendar", "amount", "moment"] (spTkIX C T S CA) := by
  refine F.okX scTkI (fun vs H Q E h => ?_) (fun cdv A outer s H vs Q E hr h => ?_)
  · obtain ⟨x, dx, c, l, d, ps, ms, am, t, rfl, _⟩ := h
    rfl
  · obtain ⟨x, dx, c, l, d, ps, ms, am, t, rfl, hx, cal, hp, fit, cx, kx, k⟩ := h
    have hr2 : Room 2 _ := hr.mono (by decide)
    refine ⟨_, pss_cons (ps_expr (pe_callS Am.ok hr (by rfl) Am.at_ Am.kp Am.bi (fun σ => passAt (W := fun cls d _ H => E cls d H) (takes_of rfl rfl rfl rfl) σ) (pa_cons (pv 2) pa_nil)))
      (pss_cons (ps_fld (pv 0) (pe_tup (pa_cons (pv 1) (pa_cons (pv 2) (pa_cons (pv 3) pa_nil)))) rfl)
      (pss_cons (ps_fld (pv 0) (pe_lst pa_nil) rfl)
      (pss_cons (ps_fld (pv 0) (pe_lst (pa_cons (pe_make MS GS hr2 (by rfl) Z.at_ bS .nil pass0 (pa_cons (pv 1) (pa_cons (pv 2) (pa_cons (pv 3) (pa_cons pe_bl pa_nil))))) pa_nil)) rfl)
      (pss_one (ps_fld (pv 0) pe_non rfl))))), ?_⟩
    refine ⟨_, rfl, am, rfl, kx, fun a0 => ?_⟩
    replace k := k a0
    have xx : ∀ {q : Addr}, H q = none → x ≠ q := fun e => ne_of_none hx e
    refine ⟨_, rfl, _, rfl, _, rfl, (by show 3 ≤ sizeLine; decide), fun q nq => ?_⟩
    have s1 := same_new (o := .tup [.ref c, .int am, .int t]) nq
    refine ⟨_, rfl, x, T, dx, _, rfl, s1 _ _ hx, Y.cl, Y.nq, (by show 0 < 1000; decide), ?_⟩
    generalize hH2 : upd (upd H q (.tup [.ref c, .int am, .int t])) x (.ins T dx (putF "_asked" (.ref q) [])) = H2
    have hx2 : H2 x = some (.ins T dx (putF "_asked" (.ref q) [])) := by rw [← hH2]; exact upd_same
    have f2 : Fr1 x H H2 := fun b o e g => by
      rw [← hH2, upd_ne g]
      exact s1 _ _ e
    have hq2 : H2 q = some (.tup [.ref c, .int am, .int t]) := by
      rw [← hH2, upd_ne (xx nq).symm]
      exact upd_same
    have free2 : ∀ b, H2 b = none → H b = none := fun b e => by
      cases e2 : H b with
      | none => rfl
      | some o =>
        have bx : b ≠ x := fun z => by rw [z, hx2] at e; cases e
        rw [f2 b o e2 bx] at e
        cases e
    refine ⟨Nat.zero_le _, fun st nt => ?_⟩
    refine ⟨_, rfl, x, T, dx, _, rfl, same_new nt _ _ hx2, Y.cl, Y.nt, (by show 1 < 1000; decide), ?_⟩
    generalize hH3 : upd (upd H2 st (.lst [])) x (.ins T dx (putF "_story" (.ref st) (putF "_asked" (.ref q) []))) = H3
    have xt : x ≠ st := ne_of_none hx2 nt
    have hx3 : H3 x = some (.ins T dx (putF "_story" (.ref st) (putF "_asked" (.ref q) []))) := by rw [← hH3]; exact upd_same
    have f3 : Fr1 x H2 H3 := fun b o e g => by
      rw [← hH3, upd_ne g]
      exact same_new nt _ _ e
    have ht3 : H3 st = some (.lst []) := by
      rw [← hH3, upd_ne xt.symm]
      exact upd_same
    have free3 : ∀ b, H3 b = none → H2 b = none := fun b e => by
      cases e2 : H2 b with
      | none => rfl
      | some o =>
        have bx : b ≠ x := fun z => by rw [z, hx3] at e; cases e
        rw [f3 b o e2 bx] at e
        cases e
    refine ⟨_, rfl, _, rfl, _, rfl, fun sa dsx nsa ndsx _ => stg_made rfl nsa ndsx fun H4 h4 s4 free4 => ⟨rfl, (by show 1 ≤ sizeLine; decide), fun sg ng => ?_⟩⟩
    have hx4 := s4 _ _ hx3
    refine ⟨_, rfl, x, T, dx, _, rfl, same_new ng _ _ hx4, Y.cl, Y.ng, (by show 2 < 1000; decide), ?_⟩
    refine ⟨_, rfl, x, T, dx, _, rfl, upd_same, Y.cl, Y.nm, (by show 3 < 1000; decide), ?_⟩
    generalize hH6 : upd (upd (upd H4 sg (.lst [.ref sa])) x (.ins T dx (putF "_stages" (.ref sg) (putF "_story" (.ref st) (putF "_asked" (.ref q) []))))) x (.ins T dx (putF "_most" .non (putF "_stages" (.ref sg) (putF "_story" (.ref st) (putF "_asked" (.ref q) []))))) = H6
    have xg : x ≠ sg := ne_of_none hx4 ng
    have f4 : Fr1 x H3 H6 := fun b o e g => by
      rw [← hH6, upd_ne g, upd_ne g]
      exact same_new ng _ _ (s4 _ _ e)
    have f0 : Fr1 x H H6 := fun b o e g => f4 b o (f3 b o (f2 b o e g) g) g
    have hg6 : H6 sg = some (.lst [.ref sa]) := by
      rw [← hH6, upd_ne xg.symm, upd_ne xg.symm]
      exact upd_same
    have xa : sa ≠ x := fun z => by
      rw [z, hx3] at nsa
      cases nsa
    have ha6 : H6 sa = some (.ins S dsx (stageF c am t false)) := by
      rw [← hH6, upd_ne xa, upd_ne xa]
      exact same_new ng _ _ h4
    have cx2 : c ≠ x := cx
    obtain ⟨⟨cdx, hc⟩, hl, hd⟩ := cal
    have lx : l ≠ x := fun z => by
      rw [z, hx] at hl
      cases hl
    have dxx : d ≠ x := fun z => by
      rw [z, hx] at hd
      cases hd
    have cal6 : CalAt C H6 c l d ps ms := ⟨⟨cdx, f0 _ _ hc cx⟩, f0 _ _ hl lx, f0 _ _ hd dxx⟩
    have tg : st ≠ sg := ne_of_none (s4 _ _ ht3) ng
    refine k H6 st sg sa ⟨⟨q, dx, by rw [← hH6]; exact upd_same, f4 _ _ (f3 _ _ hq2 (xx nq).symm) (xx nq).symm⟩, f4 _ _ ht3 xt.symm, hg6, tg, fun g hg => ?_⟩ (free2 _ nt) (free2 _ (free3 _ (free4 _ ng))) f0
    obtain rfl := List.mem_singleton.mp hg
    exact ⟨⟨dsx, ha6⟩, cal6, hp, fit⟩
theorem scTk1 : FnScope ["self"] ["self"] (defScope sTkMoment) := ⟨rfl, rfl, rfl, by decide +kernel, rfl, by decide +kernel, by decide +kernel⟩
theorem scTk2 : FnScope ["self"] ["self"] (defScope sTkLeft) := ⟨rfl, rfl, rfl, by decide +kernel, rfl, by decide +kernel, by decide +kernel⟩
theorem scTk3 : FnScope ["self"] ["self"] (defScope sTkPaused) := ⟨rfl, rfl, rfl, by decide +kernel, rfl, by decide +kernel, by decide +kernel⟩
theorem last_at {gs : List SD} {g : SD} : atI ((gs ++ [g]).map fun g => V.ref g.a) (-(1 : Int)) = some (.ref g.a) := by
  rw [List.map_append]
  exact atI_last _ _
theorem ok_tkMoment {f C T S : Addr} {fd : FuncData} (F : Fun K "moment" "Ticket.moment" sTkMoment f fd) (Z : StC K mg S) (Y : TkC K T) : FnOk P w K mg base CX0 1 f fd ["self"] (spTkMoment C T S) := by
  refine F.ok scTk1 (fun vs H Q E h => ?_) (fun cdv A outer s H vs Q E hr h => ?_)
  · obtain ⟨x, st, sg, most, x0, a0, t0, es, gs, g, rfl, _⟩ := h
    rfl
  · obtain ⟨x, st, sg, most, x0, a0, t0, es, gs, g, rfl, ⟨⟨q, dx, hx, _⟩, sy, sl, _, sa⟩, k⟩ := h
    obtain ⟨⟨dg, hg⟩, _⟩ := sa g (List.mem_append_right _ List.mem_cons_self)
    refine ⟨_, pss_one (ps_ret (pe_fld (pe_ix ix_list (pe_fld (pv 0) rfl) (pe_un un_neg pe_int) (fun _ _ => rfl)) rfl)), ?_⟩
    exact ⟨_, rfl, x, T, dx, _, _, rfl, hx, Y.cl, Y.ng, tickF_sg q st sg most, _, rfl, sg, _, _, _, rfl, rfl, SqL.of sl, last_at, g.a, S, dg, _, _, rfl, hg, Z.cl, Z.nb, stageF_b _ _ _ _, k⟩
theorem ok_tkLeft {f C T S : Addr} {fd : FuncData} (F : Fun K "left" "Ticket.left" sTkLeft f fd) (Z : StC K mg S) (Y : TkC K T) : FnOk P w K mg base CX0 1 f fd ["self"] (spTkLeft C T S) := by
  refine F.ok scTk2 (fun vs H Q E h => ?_) (fun cdv A outer s H vs Q E hr h => ?_)
  · obtain ⟨x, st, sg, most, x0, a0, t0, es, gs, g, rfl, _⟩ := h
    rfl
  · obtain ⟨x, st, sg, most, x0, a0, t0, es, gs, g, rfl, ⟨⟨q, dx, hx, _⟩, sy, sl, _, sa⟩, k⟩ := h
    obtain ⟨⟨dg, hg⟩, _⟩ := sa g (List.mem_append_right _ List.mem_cons_self)
    refine ⟨_, pss_one (ps_ret (pe_fld (pe_ix ix_list (pe_fld (pv 0) rfl) (pe_un un_neg pe_int) (fun _ _ => rfl)) rfl)), ?_⟩
    exact ⟨_, rfl, x, T, dx, _, _, rfl, hx, Y.cl, Y.ng, tickF_sg q st sg most, _, rfl, sg, _, _, _, rfl, rfl, SqL.of sl, last_at, g.a, S, dg, _, _, rfl, hg, Z.cl, Z.na, stageF_a _ _ _ _, k⟩
theorem ok_tkPaused {f C T S : Addr} {fd : FuncData} (F : Fun K "is_paused" "Ticket.is_paused" sTkPaused f fd) (Z : StC K mg S) (Y : TkC K T) : FnOk P w K mg base CX0 1 f fd ["self"] (spTkPaused C T S) := by
  refine F.ok scTk3 (fun vs H Q E h => ?_) (fun cdv A outer s H vs Q E hr h => ?_)
  · obtain ⟨x, st, sg, most, x0, a0, t0, es, gs, g, rfl, _⟩ := h
    rfl
  · obtain ⟨x, st, sg, most, x0, a0, t0, es, gs, g, rfl, ⟨⟨q, dx, hx, _⟩, sy, sl, _, sa⟩, k⟩ := h
    obtain ⟨⟨dg, hg⟩, _⟩ := sa g (List.mem_append_right _ List.mem_cons_self)
    refine ⟨_, pss_one (ps_ret (pe_fld (pe_ix ix_list (pe_fld (pv 0) rfl) (pe_un un_neg pe_int) (fun _ _ => rfl)) rfl)), ?_⟩
    exact ⟨_, rfl, x, T, dx, _, _, rfl, hx, Y.cl, Y.ng, tickF_sg q st sg most, _, rfl, sg, _, _, _, rfl, rfl, SqL.of sl, last_at, g.a, S, dg, _, _, rfl, hg, Z.cl, Z.ns, stageF_s _ _ _ _, k⟩
end

section
variable {P : Program} {w : World} {K : PySem.W.Frag} {mg : Str → Option Value} {base : Heap}
theorem scTkLeftAt : FnScope ["self", "moment", "stage"] ["self", "moment"] (defScope sTkLeftAt) := ⟨rfl, rfl, rfl, by decide +kernel, rfl, by decide +kernel, by decide +kernel⟩
theorem ok_tkLeftAt {f fW fE C T S CM : Addr} {fd dW dE : FuncData} (F : Fun K "left_at" "Ticket.left_at" sTkLeftAt f fd) (B : Blt mg) (Z : StC K mg S) (Y : TkC K T) (R : EC K mg "InvalidMoment" CM fE) (I : ErI P w K mg base fE dE)
    (Wo : At P w K mg base 3 "work" ["calendar", "begin", "end"] (spWork C) fW dW) : FnOk P w K mg base (L2.CX P w) 4 f fd ["self", "moment"] (spTkLeftAt C T S CM) := by
  refine F.okX scTkLeftAt (fun vs H Q E h => ?_) (fun cdv A outer s H vs Q E hr h => ?_)
  · obtain ⟨x, st, sg, most, x0, a0, t0, es, gs, g, t, rfl, _⟩ := h
    rfl
  · obtain ⟨x, st, sg, most, x0, a0, t0, es, gs, g, t, rfl, tk, kx, k⟩ := h
    obtain ⟨⟨q, dx, hx, _⟩, sy, sl, _, sa⟩ := tk
    obtain ⟨⟨dg, hg⟩, cal, hp, fit⟩ := sa g (List.mem_append_right _ List.mem_cons_self)
    have hr2 : Room 2 _ := hr.mono (by decide)
    refine ⟨_, pss_cons (ps_set (i := 2) scTkLeftAt.nd rfl (.inl rfl) (pe_ix ix_list (pe_fld (pv 0) rfl) (pe_un un_neg pe_int) (fun _ _ => rfl)))
      (pss_cons (ps_if (pt_cmpR op_lt (pv 1) (pe_fld (pv 2) rfl) (nomark _)) (pss_one (ps_raise rfl (takes_of rfl rfl rfl rfl) (pmk_oex R.e.ox R.e.iC I.tI I.ok hr2 I.bi .nil pass0 (by rfl) R.g (pa_cons (pv 1) pa_nil)))) pss_nil)
      (pss_cons (ps_if (pt_val (pe_fld (pv 2) rfl)) (pss_one (ps_ret (pe_fld (pv 2) rfl))) pss_nil)
      (pss_one (ps_ret (pe_callB (call_max2 rfl) (by rfl) B.max (by decide +kernel) (pa_cons pe_int (pa_cons (pe_op op_sub (pe_fld (pv 2) rfl)
        (pe_call Wo.ok hr (by rfl) Wo.at_ Wo.kp Wo.bi .nil pass0 (pa_cons (pe_fld (pv 2) rfl) (pa_cons (pe_fld (pv 2) rfl) (pa_cons (pv 1) pa_nil))))) pa_nil))))))), ?_⟩
    refine ⟨_, rfl, x, T, dx, _, _, rfl, hx, Y.cl, Y.ng, tickF_sg q st sg most, _, rfl, sg, _, _, _, rfl, rfl, SqL.of sl, last_at, ?_⟩
    refine ⟨_, rfl, _, rfl, g.a, S, dg, _, _, rfl, hg, Z.cl, Z.nb, stageF_b _ _ _ _, _, _, rfl, rfl, _, rfl, ite2 (fun e => ?_) (fun e => ?_)⟩
    · exact ⟨_, rfl, (by show 1 ≤ 1000; decide), fun y ny => err_made R.e.ox R.e.noV ny (kx (of_decide_eq_true e))⟩
    have e : g.b ≤ t := by
      rcases Int.lt_or_le t g.b with c | c
      · exact absurd (decide_eq_true c) e
      · exact c
    replace k := k e
    refine ⟨_, rfl, g.a, S, dg, _, _, rfl, hg, Z.cl, Z.ns, stageF_s _ _ _ _, _, rfl, ?_⟩
    unfold leftOf at k
    cases hst : g.st with
    | true =>
      rw [if_pos hst] at k
      exact ⟨_, rfl, g.a, S, dg, _, _, rfl, hg, Z.cl, Z.na, stageF_a _ _ _ _, k H (Same.refl H)⟩
    | false =>
      rw [if_neg (by rw [hst]; decide)] at k
      refine ⟨_, rfl, g.a, S, dg, _, _, rfl, hg, Z.cl, Z.na, stageF_a _ _ _ _, _, rfl, g.a, S, dg, _, _, rfl, hg, Z.cl, Z.nc, stageF_c _ _ _ _, _, rfl, g.a, S, dg, _, _, rfl, hg, Z.cl, Z.nb, stageF_b _ _ _ _, _, rfl, ?_⟩
      refine ⟨g.x, g.l, g.d, g.ps, g.ms, g.b, t, rfl, cal, hp, fit.len, e, fun H' s => ⟨_, _, rfl, rfl, _, _, rfl, k H' s⟩⟩
theorem scTkDone : FnScope ["self", "stage"] ["self"] (defScope sTkDone) := ⟨rfl, rfl, rfl, by decide +kernel, rfl, by decide +kernel, by decide +kernel⟩
theorem ok_tkDone {f fD C T S : Addr} {fd dD : FuncData} (F : Fun K "done_at" "Ticket.done_at" sTkDone f fd) (Z : StC K mg S) (Y : TkC K T) (Du : At P w K mg base 3 "due" ["calendar", "moment", "amount"] (spDue C) fD dD) :
    FnOk P w K mg base CX0 4 f fd ["self"] (spTkDone C T S) := by
  refine F.ok scTkDone (fun vs H Q E h => ?_) (fun cdv A outer s H vs Q E hr h => ?_)
  · obtain ⟨x, st, sg, most, x0, a0, t0, es, gs, g, rfl, _⟩ := h
    rfl
  · obtain ⟨x, st, sg, most, x0, a0, t0, es, gs, g, rfl, tk, a0', k1, k2⟩ := h
    obtain ⟨⟨q, dx, hx, _⟩, sy, sl, _, sa⟩ := tk
    obtain ⟨⟨dg, hg⟩, cal, hp, fit⟩ := sa g (List.mem_append_right _ List.mem_cons_self)
    refine ⟨_, pss_cons (ps_set (i := 1) scTkDone.nd rfl (.inl rfl) (pe_ix ix_list (pe_fld (pv 0) rfl) (pe_un un_neg pe_int) (fun _ _ => rfl)))
      (pss_cons (ps_if (pt_val (pe_fld (pv 1) rfl)) (pss_one (ps_ret pe_non)) pss_nil)
      (pss_one (ps_ret (pe_call Du.ok hr (by rfl) Du.at_ Du.kp Du.bi .nil pass0 (pa_cons (pe_fld (pv 1) rfl) (pa_cons (pe_fld (pv 1) rfl) (pa_cons (pe_fld (pv 1) rfl) pa_nil))))))), ?_⟩
    refine ⟨_, rfl, x, T, dx, _, _, rfl, hx, Y.cl, Y.ng, tickF_sg q st sg most, _, rfl, sg, _, _, _, rfl, rfl, SqL.of sl, last_at, ?_⟩
    refine ⟨_, rfl, g.a, S, dg, _, _, rfl, hg, Z.cl, Z.ns, stageF_s _ _ _ _, _, rfl, ?_⟩
    cases hst : g.st with
    | true => exact k1 hst
    | false =>
      refine ⟨_, rfl, g.a, S, dg, _, _, rfl, hg, Z.cl, Z.nc, stageF_c _ _ _ _, _, rfl, g.a, S, dg, _, _, rfl, hg, Z.cl, Z.nb, stageF_b _ _ _ _, _, rfl, g.a, S, dg, _, _, rfl, hg, Z.cl, Z.na, stageF_a _ _ _ _, ?_⟩
      exact ⟨g.x, g.l, g.d, g.ps, g.ms, g.b, g.am, rfl, cal, hp, fit.asc, a0', fun r H' hr' s => k2 hst r H' hr' s⟩
end

/-! ### a new ticket -/
def spTkI (C T S : Addr) : Sp := fun vs H Q _ => ∃ (x dx c l d : Addr) (ps : List Int) (ms : List (Int × Int)) (am t : Int), vs = [.ref x, .ref c, .int am, .int t] ∧ H x = some (.ins T dx []) ∧ CalAt C H c l d ps ms ∧ Paces ps ∧ Fit ms ∧ c ≠ x ∧ 0 ≤ am ∧
  (∀ H' st sg s, TkAt C T S H' x st sg .non c am t [] [⟨s, c, l, d, ps, ms, am, t, false⟩] → H st = none → H sg = none → (∀ c o, H c = some o → c ≠ x → H' c = some o) → Q .non H')
theorem tkI_of {C T S CA : Addr} {vs : List V} {H : Hp} {Q : VK} {E : XK} (h : spTkI C T S vs H Q E) : spTkIX C T S CA vs H Q E0 := by
  obtain ⟨x, dx, c, l, d, ps, ms, am, t, rfl, hx, cal, hp, fit, cx, a0, k⟩ := h
  exact ⟨x, dx, c, l, d, ps, ms, am, t, rfl, hx, cal, hp, fit, cx, fun z => absurd a0 (by omega), fun _ => k⟩
theorem tk_made {C T S : Addr} {H : Hp} {x dx c l d : Addr} {ps : List Int} {ms : List (Int × Int)} {am t : Int} {vs : List V} {R : VK} {E : XK} (hv : vs = [.ref x, .ref c, .int am, .int t]) (nx : H x = none) (ndx : H dx = none)
    (cal : CalAt C H c l d ps ms) (hp : Paces ps) (fit : Fit ms) (a0 : 0 ≤ am)
    (k : ∀ H' st sg s, TkAt C T S H' x st sg .non c am t [] ([] ++ [⟨s, c, l, d, ps, ms, am, t, false⟩]) → H st = none → H sg = none → Same H H' → R .non H') : spTkI C T S vs (upd (upd H dx (.own x)) x (.ins T dx [])) R E := by
  have s0 : Same H (upd (upd H dx (.own x)) x (.ins T dx [])) := fun c o e => by
    rw [upd_ne (ne_of_none e nx), upd_ne (ne_of_none e ndx)]
    exact e
  obtain ⟨cdx, hc⟩ := cal.ob
  refine ⟨x, dx, c, l, d, ps, ms, am, t, hv, upd_same, cal.same s0, hp, fit, ne_of_none hc nx, a0, fun H' st sg s tk ht hg f => k H' st sg s tk (s0.free ht) (s0.free hg) fun b o e => f b o (s0 _ _ e) (ne_of_none e nx)⟩
theorem leftAt_calm {C T S CM : Addr} : ∀ (vs : List V) (H : Hp) (Q : VK) (E : XK), spTkLeftAtC C T S vs H Q E → spTkLeftAt C T S CM vs H Q E0 := fun vs H Q E h => by
  obtain ⟨x, st, sg, most, x0, a0, t0, es, gs, g, t, rfl, tk, le, k⟩ := h
  exact ⟨x, st, sg, most, x0, a0, t0, es, gs, g, t, rfl, tk, fun z => absurd le (by omega), fun _ => k⟩

/-! ### the calls that change a ticket -/
def Fr2 (a b : Addr) (H H' : Hp) : Prop := ∀ c o, H c = some o → c ≠ a → c ≠ b → H' c = some o
theorem SdAt.putR {C S c : Addr} {H : Hp} {g : SD} {zs : List Addr} {o : HO} (h : SdAt C S H g) (r : H c = some (.lst (zs.map V.ref))) : SdAt C S (upd H c o) g := by
  obtain ⟨⟨dx, o1⟩, ⟨⟨dy, c1⟩, c2, c3⟩, hp, t⟩ := h
  refine ⟨⟨dx, ?_⟩, ⟨⟨dy, ?_⟩, ?_, ?_⟩, hp, t⟩
  · rw [upd_ne (fun z => by rw [z, r] at o1; cases o1)]
    exact o1
  · rw [upd_ne (fun z => by rw [z, r] at c1; cases c1)]
    exact c1
  · rw [upd_ne (fun z => by
      rw [z, r] at c2
      have l0 := hp.len0
      injection c2 with e
      injection e with e
      cases hq : g.ps with
      | nil => rw [hq] at l0; exact absurd l0 (by decide)
      | cons v vs =>
        rw [hq] at e
        cases zs with
        | nil => cases e
        | cons z zs => cases (List.cons.inj e).1)]
    exact c2
  · rw [upd_ne (fun z => by rw [z, r] at c3; cases c3)]
    exact c3
theorem CalAt.putR {C c x l d : Addr} {H : Hp} {ps : List Int} {ms : List (Int × Int)} {zs : List Addr} {o : HO} (h : CalAt C H x l d ps ms) (l0 : 0 < ps.length) (r : H c = some (.lst (zs.map V.ref))) : CalAt C (upd H c o) x l d ps ms := by
  obtain ⟨⟨dy, c1⟩, c2, c3⟩ := h
  refine ⟨⟨dy, ?_⟩, ?_, ?_⟩
  · rw [upd_ne (fun z => by rw [z, r] at c1; cases c1)]
    exact c1
  · rw [upd_ne (fun z => by
      rw [z, r] at c2
      injection c2 with e
      injection e with e
      cases ps with
      | nil => exact absurd l0 (by decide)
      | cons v vs =>
        cases zs with
        | nil => cases e
        | cons z zs => cases (List.cons.inj e).1)]
    exact c2
  · rw [upd_ne (fun z => by rw [z, r] at c3; cases c3)]
    exact c3
def spNotDone (CW : Addr) : Sp := fun vs H Q E => ∃ l t : Int, vs = [.int l, .int t] ∧ (l = 0 → Rais H E CW (.int t)) ∧ (l ≠ 0 → Q .non H)
def spTkGo (C T S : Addr) : Sp := fun vs H Q _ => ∃ (x st sg : Addr) (most : V) (x0 : Addr) (a0 t0 : Int) (es : List Addr) (gs : List SD) (e c l d : Addr) (ps : List Int) (ms : List (Int × Int)) (am t : Int) (b : Bool) (ys : List V), vs = [.ref x, .ref e, .ref c, .int am, .bl b] ∧ TkAt C T S H x st sg most x0 a0 t0 es gs ∧
  H e = some (.tup (ys ++ [.int t])) ∧ CalAt C H c l d ps ms ∧ Paces ps ∧ Fit ms ∧ es.length < 1000 ∧ gs.length < 1000 ∧
  ∀ H' s, TkAt C T S H' x st sg most x0 a0 t0 (es ++ [e]) (gs ++ [⟨s, c, l, d, ps, ms, am, t, b⟩]) → H s = none → Fr2 st sg H H' → Q .non H'
/-- what a call leaves behind: one more call and one more stage -/
def Gone (C T S : Addr) (H : Hp) (Q : VK) (x st sg : Addr) (most : V) (x0 : Addr) (a0 t0 : Int) (es : List Addr) (gs : List SD) (g : SD) (ys : List V) (c l d : Addr) (ps : List Int) (ms : List (Int × Int)) (am t : Int) (b : Bool) : Prop :=
  ∀ (H' : Hp) (e s : Addr), TkAt C T S H' x st sg most x0 a0 t0 (es ++ [e]) ((gs ++ [g]) ++ [⟨s, c, l, d, ps, ms, am, t, b⟩]) → H' e = some (.tup (ys ++ [.int t])) → H e = none → H s = none → Fr2 st sg H H' → Q .non H'
def spTkPause (C T S CM CW : Addr) : Sp := fun vs H Q E => ∃ (x st sg : Addr) (most : V) (x0 : Addr) (a0 t0 : Int) (es : List Addr) (gs : List SD) (g : SD) (t : Int), vs = [.ref x, .int t] ∧ TkAt C T S H x st sg most x0 a0 t0 es (gs ++ [g]) ∧ es.length < 900 ∧ gs.length < 900 ∧
  (t < g.b → Rais H E CM (.int t)) ∧ (g.b ≤ t → (leftOf g t = 0 ∨ g.st = true) → Rais H E CW (.int t)) ∧
  (g.b ≤ t → leftOf g t ≠ 0 → g.st = false → Gone C T S H Q x st sg most x0 a0 t0 es gs g [.str "pause"] g.x g.l g.d g.ps g.ms (leftOf g t) t true)
def spTkResume (C T S CM CW : Addr) : Sp := fun vs H Q E => ∃ (x st sg : Addr) (most : V) (x0 : Addr) (a0 t0 : Int) (es : List Addr) (gs : List SD) (g : SD) (t : Int), vs = [.ref x, .int t] ∧ TkAt C T S H x st sg most x0 a0 t0 es (gs ++ [g]) ∧ es.length < 900 ∧ gs.length < 900 ∧
  (t < g.b → Rais H E CM (.int t)) ∧ (g.b ≤ t → g.st = false → Rais H E CW (.int t)) ∧
  (g.b ≤ t → g.st = true → Gone C T S H Q x st sg most x0 a0 t0 es gs g [.str "resume"] g.x g.l g.d g.ps g.ms (leftOf g t) t false)
def spTkSwitch (C T S CM CW : Addr) : Sp := fun vs H Q E => ∃ (x st sg : Addr) (most : V) (x0 : Addr) (a0 t0 : Int) (es : List Addr) (gs : List SD) (g : SD) (c l d : Addr) (ps : List Int) (ms : List (Int × Int)) (t : Int), vs = [.ref x, .ref c, .int t] ∧ TkAt C T S H x st sg most x0 a0 t0 es (gs ++ [g]) ∧ es.length < 900 ∧ gs.length < 900 ∧
  CalAt C H c l d ps ms ∧ Paces ps ∧ Fit ms ∧ (t < g.b → Rais H E CM (.int t)) ∧ (g.b ≤ t → leftOf g t = 0 → Rais H E CW (.int t)) ∧
  (g.b ≤ t → leftOf g t ≠ 0 → Gone C T S H Q x st sg most x0 a0 t0 es gs g [.str "switch", .ref c] c l d ps ms (leftOf g t) t g.st)
def spTkEnlarge (C T S CM CW CA : Addr) : Sp := fun vs H Q E => ∃ (x st sg : Addr) (most : V) (x0 : Addr) (a0 t0 : Int) (es : List Addr) (gs : List SD) (g : SD) (am t : Int), vs = [.ref x, .int am, .int t] ∧ TkAt C T S H x st sg most x0 a0 t0 es (gs ++ [g]) ∧ es.length < 900 ∧ gs.length < 900 ∧
  (t < g.b → Rais H E CM (.int t)) ∧ (g.b ≤ t → am < 0 → Rais H E CA (.int am)) ∧ (g.b ≤ t → 0 ≤ am → leftOf g t = 0 → Rais H E CW (.int t)) ∧
  (g.b ≤ t → 0 ≤ am → leftOf g t ≠ 0 → Gone C T S H Q x st sg most x0 a0 t0 es gs g [.str "enlarge", .int am] g.x g.l g.d g.ps g.ms (leftOf g t + am) t g.st)
def spTkUndo (C T S CN : Addr) : Sp := fun vs H Q E => ∃ (x st sg : Addr) (most : V) (x0 : Addr) (a0 t0 : Int) (es : List Addr) (gs : List SD), vs = [.ref x] ∧ TkAt C T S H x st sg most x0 a0 t0 es gs ∧ es.length < 1000 ∧
  (es = [] → Rais H E CN (.int 0)) ∧ (∀ (es' : List Addr) (e : Addr), es = es' ++ [e] → ∃ (gs' : List SD) (g : SD), gs = gs' ++ [g] ∧ ∀ H', TkAt C T S H' x st sg most x0 a0 t0 es' gs' → Fr2 st sg H H' → Q .non H')
section
variable {P : Program} {w : World} {K : PySem.W.Frag} {mg : Str → Option Value} {base : Heap}
theorem scNotDone : FnScope ["left", "moment"] ["left", "moment"] (defScope sNotDone) := ⟨rfl, rfl, rfl, by decide +kernel, rfl, by decide +kernel, by decide +kernel⟩
theorem ok_notDone {f fE CW : Addr} {fd dE : FuncData} (F : Fun K "check_not_done" "check_not_done" sNotDone f fd) (RW : EC K mg "WrongState" CW fE) (I : ErI P w K mg base fE dE) : FnOk P w K mg base (L2.CX P w) 3 f fd ["left", "moment"] (spNotDone CW) := by
  refine F.okX scNotDone (fun vs H Q E h => ?_) (fun cdv A outer s H vs Q E hr h => ?_)
  · obtain ⟨l, t, rfl, _⟩ := h
    rfl
  · obtain ⟨l, t, rfl, kx, k⟩ := h
    have hr2 : Room 2 _ := hr.mono (by decide)
    refine ⟨_, pss_one (ps_if (pt_cmpR op_eq (pv 0) pe_int (nomark _))
        (pss_one (ps_raise rfl (takes_of rfl rfl rfl rfl) (pmk_oex RW.e.ox RW.e.iC I.tI I.ok hr2 I.bi .nil pass0 (by rfl) RW.g (pa_cons (pv 1) pa_nil))))
        pss_nil), ?_⟩
    refine ⟨_, rfl, rfl, _, rfl, ite2 (fun e => ?_) (fun e => k ?_)⟩
    · exact ⟨_, rfl, (by show 1 ≤ 1000; decide), fun y ny => err_made RW.e.ox RW.e.noV ny (kx (by have := of_decide_eq_true e; injection this))⟩
    · intro z
      exact e (decide_eq_true (by rw [z]))
theorem scTkGo : FnScope ["self", "call", "calendar", "amount", "still"] ["self", "call", "calendar", "amount", "still"] (defScope sTkGo) := ⟨rfl, rfl, rfl, by decide +kernel, rfl, by decide +kernel, by decide +kernel⟩
theorem ok_tkGo {f fS C T S : Addr} {fd dS : FuncData} (F : Fun K "_go_on" "Ticket._go_on" sTkGo f fd) (Z : StC K mg S) (Y : TkC K T)
    (MS : Mk K S fS) (GS : FnOk P w K mg base CX0 1 fS dS ["self", "calendar", "amount", "begin", "still"] (spStI S)) (bS : Binds K dS ["self", "calendar", "amount", "begin", "still"] []) : FnOk P w K mg base CX0 3 f fd ["self", "call", "calendar", "amount", "still"] (spTkGo C T S) := by
  refine F.ok scTkGo (fun vs H Q E h => ?_) (fun cdv A outer s H vs Q E hr h => ?_)
  · obtain ⟨x, st, sg, most, x0, a0, t0, es, gs, e, c, l, d, ps, ms, am, t, b, ys, rfl, _⟩ := h
    rfl
  · obtain ⟨x, st, sg, most, x0, a0, t0, es, gs, e, c, l, d, ps, ms, am, t, b, ys, rfl, tk, he, cal, hp, fit, el, gl, k⟩ := h
    obtain ⟨⟨q, dx, hx, hq⟩, sy, sl, ne, sa⟩ := tk
    refine ⟨_, pss_cons (ps_expr (pe_bm PySem.F.plainAttrs_list PySem.F.slot_list_append PySem.F.type_list_append mt_append (pe_fld (pv 0) rfl) (pa_cons (pv 1) pa_nil)))
      (pss_one (ps_expr (pe_bm PySem.F.plainAttrs_list PySem.F.slot_list_append PySem.F.type_list_append mt_append (pe_fld (pv 0) rfl) (pa_cons (pe_make MS GS hr (by rfl) Z.at_ bS .nil pass0 (pa_cons (pv 2) (pa_cons (pv 3) (pa_cons (pe_ix ix_tup (pv 1) (pe_un un_neg pe_int) (fun _ _ => rfl)) (pa_cons (pv 4) pa_nil))))) pa_nil)))), ?_⟩
    have esz : (es.map V.ref).length < sizeLine := by rw [List.length_map]; exact Nat.lt_trans el (by decide)
    refine ⟨_, rfl, x, T, dx, _, _, rfl, hx, Y.cl, Y.nt, tickF_st q st sg most, .inl ⟨rfl, _, SqL.of sy⟩, _, rfl, st, _, _, rfl, rfl, sy, esz, ?_⟩
    generalize hJ : upd H st (.lst (es.map V.ref ++ [.ref e])) = J
    have hst : ∀ {a : Addr} {o : HO}, H a = some o → a ≠ st → J a = some o := fun {a o} h1 h2 => by rw [← hJ, upd_ne h2]; exact h1
    have xn : x ≠ st := fun z => by rw [z, sy] at hx; cases hx
    have en : e ≠ st := fun z => by rw [z, sy] at he; cases he
    have qn : q ≠ st := fun z => by rw [z, sy] at hq; cases hq
    have calJ : CalAt C J c l d ps ms := by rw [← hJ]; exact cal.putR hp.len0 sy
    refine ⟨_, rfl, x, T, dx, _, _, rfl, hst hx xn, Y.cl, Y.ng, tickF_sg q st sg most, .inl ⟨rfl, _, SqL.of (hst sl ne.symm)⟩, ?_⟩
    refine ⟨_, rfl, _, rfl, _, rfl, _, rfl, e, _, _, _, rfl, rfl, SqT.of (hst he en), atI_last _ _, _, rfl, fun s' ds ns nds _ => stg_made rfl ns nds fun J2 h2 s2 free2 => ⟨rfl, ?_⟩⟩
    have gsz : (gs.map fun g => V.ref g.a).length < sizeLine := by rw [List.length_map]; exact Nat.lt_trans gl (by decide)
    have sl2 := s2 _ _ (hst sl ne.symm)
    refine ⟨sg, _, _, rfl, rfl, sl2, gsz, ?_⟩
    have nsH : H s' = none := by
      cases e2 : H s' with
      | none => rfl
      | some o =>
        by_cases z : s' = st
        · rw [z, ← hJ, upd_same] at ns
          cases ns
        · rw [hst e2 z] at ns
          cases ns
    have gg : ∀ {a : Addr} {o : HO}, J2 a = some o → a ≠ sg → (upd J2 sg (.lst ((gs.map fun g => V.ref g.a) ++ [.ref s']))) a = some o := fun {a o} h1 h2 => by rw [upd_ne h2]; exact h1
    have xg : x ≠ sg := fun z => by rw [z, sl] at hx; cases hx
    have eg : e ≠ sg := fun z => by rw [z, sl] at he; cases he
    have qg : q ≠ sg := fun z => by rw [z, sl] at hq; cases hq
    have sg' : s' ≠ sg := fun z => by rw [z, sl2] at h2; cases h2
    refine k _ s' ⟨⟨q, dx, gg (s2 _ _ (hst hx xn)) xg, gg (s2 _ _ (hst hq qn)) qg⟩, ?_, ?_, ne, fun g hg => ?_⟩ nsH fun a o h1 n1 n2 => gg (s2 _ _ (hst h1 n1)) n2
    · rw [List.map_append]
      exact gg (s2 _ _ (by rw [← hJ]; exact upd_same)) ne
    · rw [List.map_append]
      exact upd_same
    · have sl3 : J2 sg = some (.lst ((gs.map fun g => g.a).map V.ref)) := by
        rw [List.map_map]
        exact sl2
      rcases List.mem_append.mp hg with h | h
      · have := sa g h
        exact SdAt.putR (((by rw [← hJ]; exact this.putR sy) : SdAt C S J g).same s2) sl3
      · obtain rfl := List.mem_singleton.mp h
        exact SdAt.putR (g := ⟨s', c, l, d, ps, ms, am, t, b⟩) ⟨⟨ds, h2⟩, calJ.same s2, hp, fit⟩ sl3
end

section
variable {P : Program} {w : World} {K : PySem.W.Frag} {mg : Str → Option Value} {base : Heap}
theorem scTkPause : FnScope ["self", "moment", "left"] ["self", "moment"] (defScope sTkPause) := ⟨rfl, rfl, rfl, by decide +kernel, rfl, by decide +kernel, by decide +kernel⟩
theorem ok_tkPause {f fND fE gLA gGO p3 g3 C T S CM CW : Addr} {fd dND dE dLA dGO d3 : FuncData} (F : Fun K "pause" "Ticket.pause" sTkPause f fd) (Z : StC K mg S) (Y : TkC K T) (RW : EC K mg "WrongState" CW fE) (I : ErI P w K mg base fE dE)
    (ND : AtX P w K mg base 3 "check_not_done" ["left", "moment"] (spNotDone CW) fND dND) (hLA : Meth K T "left_at" gLA) (GLA : FnOk P w K mg base (L2.CX P w) 4 gLA dLA ["self", "moment"] (spTkLeftAt C T S CM)) (bLA : Binds K dLA ["self", "moment"] [])
    (Y3 : Pp P w K mg base T "is_paused" (spTkPaused C T S) p3 g3 d3) (hGO : Meth K T "_go_on" gGO) (GGO : FnOk P w K mg base CX0 3 gGO dGO ["self", "call", "calendar", "amount", "still"] (spTkGo C T S)) (bGO : Binds K dGO ["self", "call", "calendar", "amount", "still"] []) :
    FnOk P w K mg base (L2.CX P w) 5 f fd ["self", "moment"] (spTkPause C T S CM CW) := by
  refine F.okX scTkPause (fun vs H Q E h => ?_) (fun cdv A outer s H vs Q E hr h => ?_)
  · obtain ⟨x, st, sg, most, x0, a0, t0, es, gs, g, t, rfl, _⟩ := h
    rfl
  · obtain ⟨x, st, sg, most, x0, a0, t0, es, gs, g, t, rfl, tk, el, gl, km, kw, k⟩ := h
    obtain ⟨q, dx, hx, hq⟩ := tk.ob
    have nom : ∀ {m : Str}, ¬ m = "_most" → ¬ m = "_stages" → ¬ m = "_story" → ¬ m = "_asked" → (tickF q st sg most).lookup m = none := fun h1 h2 h3 h4 => tickF_no q st sg most h1 h2 h3 h4
    have hr2 : Room 2 _ := hr.mono (by decide)
    have hr3 : Room 3 _ := hr.mono (by decide)
    have hr4 : Room 4 _ := hr.mono (by decide)
    refine ⟨_, pss_cons (ps_set (i := 2) scTkPause.nd rfl (.inl rfl) (pe_meth (pv 0) Y.cl hLA GLA hr4 bLA .nil (passes_call (W := fun cls d _ H => E cls d H) (takes_of rfl rfl rfl rfl) (fun _ _ _ _ h => h)) (pa_cons (pv 1) pa_nil)))
      (pss_cons (ps_expr (pe_callS ND.ok hr3 (by rfl) ND.at_ ND.kp ND.bi (fun σ => passAt (W := fun cls d _ H => E cls d H) (takes_of rfl rfl rfl rfl) σ) (pa_cons (pv 2) (pa_cons (pv 1) pa_nil))))
      (pss_cons (ps_if (pt_val (pe_prop (pv 0) Y.cl Y3.of Y3.ok hr2 Y3.bi .nil pass0 rfl))
        (pss_one (ps_raise rfl (takes_of rfl rfl rfl rfl) (pmk_oex RW.e.ox RW.e.iC I.tI I.ok hr2 I.bi .nil pass0 (by rfl) RW.g (pa_cons (pv 1) pa_nil))))
        pss_nil)
      (pss_one (ps_expr (pe_meth (pv 0) Y.cl hGO GGO hr3 bGO .nil pass0 (pa_cons (pe_tup (pa_cons pe_str (pa_cons (pv 1) pa_nil))) (pa_cons (pe_fld (pe_ix ix_list (pe_fld (pv 0) rfl) (pe_un un_neg pe_int) (fun _ _ => rfl)) rfl) (pa_cons (pv 2) (pa_cons pe_bl pa_nil))))))))), ?_⟩
    refine ⟨_, rfl, x, dx, _, rfl, hx, nom (by decide +kernel) (by decide +kernel) (by decide +kernel) (by decide +kernel), _, rfl, ⟨x, st, sg, most, x0, a0, t0, es, gs, g, t, rfl, tk, km, fun le H1 s1 => ?_⟩⟩
    refine ⟨_, rfl, _, rfl, ⟨_, t, rfl, fun z => (kw le (.inl z)).same s1, fun nz => ?_⟩⟩
    have tk1 := tk.same s1
    refine ⟨_, rfl, x, dx, _, rfl, s1 _ _ hx, ⟨x, st, sg, most, x0, a0, t0, es, gs, g, rfl, tk1, ?_⟩⟩
    refine ⟨_, rfl, ?_⟩
    cases hst : g.st with
    | true => exact ⟨_, rfl, (by show 1 ≤ 1000; decide), fun y ny => err_made RW.e.ox RW.e.noV ny ((kw le (.inr hst)).same s1)⟩
    | false =>
      replace k := k le nz hst
      obtain ⟨⟨dg, hg⟩, cal, hp, fit⟩ := tk1.sa g (List.mem_append_right _ List.mem_cons_self)
      refine ⟨_, rfl, x, dx, _, rfl, s1 _ _ hx, nom (by decide +kernel) (by decide +kernel) (by decide +kernel) (by decide +kernel), _, rfl, (by show 2 ≤ sizeLine; decide), fun e ne => ?_⟩
      have s2 := same_new (o := .tup [.str "pause", .int t]) ne
      have sl2 := s2 _ _ tk1.sl
      refine ⟨_, rfl, x, T, dx, _, _, rfl, s2 _ _ (s1 _ _ hx), Y.cl, Y.ng, tickF_sg q st sg most, _, rfl, sg, _, _, _, rfl, rfl, SqL.of sl2, last_at, g.a, S, dg, _, _, rfl, s2 _ _ hg, Z.cl, Z.nc, stageF_c _ _ _ _, ?_⟩
      refine ⟨_, rfl, ⟨x, st, sg, most, x0, a0, t0, es, gs ++ [g], e, g.x, g.l, g.d, g.ps, g.ms, _, t, true, [.str "pause"], rfl, tk1.same s2, upd_same, cal.same s2, hp, fit, by omega, by rw [List.length_append]; show gs.length + 1 < 1000; omega, fun H' s' tk' ns f => ?_⟩⟩
      have s12 := s1.trans s2
      refine k H' e s' tk' (f _ _ upd_same (fun z => ?_) (fun z => ?_)) (s1.free ne) (s12.free ns) fun c o h1 n1 n2 => f _ _ (s12 _ _ h1) n1 n2
      · have := s2 _ _ tk1.sy
        rw [← z, upd_same] at this
        cases this
      · rw [← z, upd_same] at sl2
        cases sl2
end

section
variable {P : Program} {w : World} {K : PySem.W.Frag} {mg : Str → Option Value} {base : Heap}
theorem scTkResume : FnScope ["self", "moment", "left"] ["self", "moment"] (defScope sTkResume) := ⟨rfl, rfl, rfl, by decide +kernel, rfl, by decide +kernel, by decide +kernel⟩
theorem ok_tkResume {f fE gLA gGO p3 g3 C T S CM CW : Addr} {fd dE dLA dGO d3 : FuncData} (F : Fun K "resume" "Ticket.resume" sTkResume f fd) (Z : StC K mg S) (Y : TkC K T) (RW : EC K mg "WrongState" CW fE) (I : ErI P w K mg base fE dE)
    (hLA : Meth K T "left_at" gLA) (GLA : FnOk P w K mg base (L2.CX P w) 4 gLA dLA ["self", "moment"] (spTkLeftAt C T S CM)) (bLA : Binds K dLA ["self", "moment"] [])
    (Y3 : Pp P w K mg base T "is_paused" (spTkPaused C T S) p3 g3 d3) (hGO : Meth K T "_go_on" gGO) (GGO : FnOk P w K mg base CX0 3 gGO dGO ["self", "call", "calendar", "amount", "still"] (spTkGo C T S)) (bGO : Binds K dGO ["self", "call", "calendar", "amount", "still"] []) :
    FnOk P w K mg base (L2.CX P w) 5 f fd ["self", "moment"] (spTkResume C T S CM CW) := by
  refine F.okX scTkResume (fun vs H Q E h => ?_) (fun cdv A outer s H vs Q E hr h => ?_)
  · obtain ⟨x, st, sg, most, x0, a0, t0, es, gs, g, t, rfl, _⟩ := h
    rfl
  · obtain ⟨x, st, sg, most, x0, a0, t0, es, gs, g, t, rfl, tk, el, gl, km, kw, k⟩ := h
    obtain ⟨q, dx, hx, hq⟩ := tk.ob
    have nom : ∀ {m : Str}, ¬ m = "_most" → ¬ m = "_stages" → ¬ m = "_story" → ¬ m = "_asked" → (tickF q st sg most).lookup m = none := fun h1 h2 h3 h4 => tickF_no q st sg most h1 h2 h3 h4
    have hr2 : Room 2 _ := hr.mono (by decide)
    have hr3 : Room 3 _ := hr.mono (by decide)
    have hr4 : Room 4 _ := hr.mono (by decide)
    refine ⟨_, pss_cons (ps_set (i := 2) scTkResume.nd rfl (.inl rfl) (pe_meth (pv 0) Y.cl hLA GLA hr4 bLA .nil (passes_call (W := fun cls d _ H => E cls d H) (takes_of rfl rfl rfl rfl) (fun _ _ _ _ h => h)) (pa_cons (pv 1) pa_nil)))
      (pss_cons (ps_if (pt_not (pt_val (pe_prop (pv 0) Y.cl Y3.of Y3.ok hr2 Y3.bi .nil pass0 rfl)))
        (pss_one (ps_raise rfl (takes_of rfl rfl rfl rfl) (pmk_oex RW.e.ox RW.e.iC I.tI I.ok hr2 I.bi .nil pass0 (by rfl) RW.g (pa_cons (pv 1) pa_nil))))
        pss_nil)
      (pss_one (ps_expr (pe_meth (pv 0) Y.cl hGO GGO hr3 bGO .nil pass0 (pa_cons (pe_tup (pa_cons pe_str (pa_cons (pv 1) pa_nil))) (pa_cons (pe_fld (pe_ix ix_list (pe_fld (pv 0) rfl) (pe_un un_neg pe_int) (fun _ _ => rfl)) rfl) (pa_cons (pv 2) (pa_cons pe_bl pa_nil)))))))), ?_⟩
    refine ⟨_, rfl, x, dx, _, rfl, hx, nom (by decide +kernel) (by decide +kernel) (by decide +kernel) (by decide +kernel), _, rfl, ⟨x, st, sg, most, x0, a0, t0, es, gs, g, t, rfl, tk, km, fun le H1 s1 => ?_⟩⟩
    have tk1 := tk.same s1
    refine ⟨_, rfl, x, dx, _, rfl, s1 _ _ hx, ⟨x, st, sg, most, x0, a0, t0, es, gs, g, rfl, tk1, ?_⟩⟩
    refine ⟨_, rfl, ?_⟩
    cases hst : g.st with
    | false => exact ⟨_, rfl, (by show 1 ≤ 1000; decide), fun y ny => err_made RW.e.ox RW.e.noV ny ((kw le hst).same s1)⟩
    | true =>
      replace k := k le hst
      obtain ⟨⟨dg, hg⟩, cal, hp, fit⟩ := tk1.sa g (List.mem_append_right _ List.mem_cons_self)
      refine ⟨_, rfl, x, dx, _, rfl, s1 _ _ hx, nom (by decide +kernel) (by decide +kernel) (by decide +kernel) (by decide +kernel), _, rfl, (by show 2 ≤ sizeLine; decide), fun e ne => ?_⟩
      have s2 := same_new (o := .tup [.str "resume", .int t]) ne
      have sl2 := s2 _ _ tk1.sl
      refine ⟨_, rfl, x, T, dx, _, _, rfl, s2 _ _ (s1 _ _ hx), Y.cl, Y.ng, tickF_sg q st sg most, _, rfl, sg, _, _, _, rfl, rfl, SqL.of sl2, last_at, g.a, S, dg, _, _, rfl, s2 _ _ hg, Z.cl, Z.nc, stageF_c _ _ _ _, ?_⟩
      refine ⟨_, rfl, ⟨x, st, sg, most, x0, a0, t0, es, gs ++ [g], e, g.x, g.l, g.d, g.ps, g.ms, _, t, false, [.str "resume"], rfl, tk1.same s2, upd_same, cal.same s2, hp, fit, by omega, by rw [List.length_append]; show gs.length + 1 < 1000; omega, fun H' s' tk' ns f => ?_⟩⟩
      have s12 := s1.trans s2
      refine k H' e s' tk' (f _ _ upd_same (fun z => ?_) (fun z => ?_)) (s1.free ne) (s12.free ns) fun c o h1 n1 n2 => f _ _ (s12 _ _ h1) n1 n2
      · have := s2 _ _ tk1.sy
        rw [← z, upd_same] at this
        cases this
      · rw [← z, upd_same] at sl2
        cases sl2
end

section
variable {P : Program} {w : World} {K : PySem.W.Frag} {mg : Str → Option Value} {base : Heap}
theorem scTkSwitch : FnScope ["self", "calendar", "moment", "left"] ["self", "calendar", "moment"] (defScope sTkSwitch) := ⟨rfl, rfl, rfl, by decide +kernel, rfl, by decide +kernel, by decide +kernel⟩
theorem ok_tkSwitch {f fND gLA gGO p3 g3 C T S CM CW : Addr} {fd dND dLA dGO d3 : FuncData} (F : Fun K "switch" "Ticket.switch" sTkSwitch f fd) (Y : TkC K T)
    (ND : AtX P w K mg base 3 "check_not_done" ["left", "moment"] (spNotDone CW) fND dND) (hLA : Meth K T "left_at" gLA) (GLA : FnOk P w K mg base (L2.CX P w) 4 gLA dLA ["self", "moment"] (spTkLeftAt C T S CM)) (bLA : Binds K dLA ["self", "moment"] [])
    (Y3 : Pp P w K mg base T "is_paused" (spTkPaused C T S) p3 g3 d3) (hGO : Meth K T "_go_on" gGO) (GGO : FnOk P w K mg base CX0 3 gGO dGO ["self", "call", "calendar", "amount", "still"] (spTkGo C T S)) (bGO : Binds K dGO ["self", "call", "calendar", "amount", "still"] []) :
    FnOk P w K mg base (L2.CX P w) 5 f fd ["self", "calendar", "moment"] (spTkSwitch C T S CM CW) := by
  refine F.okX scTkSwitch (fun vs H Q E h => ?_) (fun cdv A outer s H vs Q E hr h => ?_)
  · obtain ⟨x, st, sg, most, x0, a0, t0, es, gs, g, c, l, d, ps, ms, t, rfl, _⟩ := h
    rfl
  · obtain ⟨x, st, sg, most, x0, a0, t0, es, gs, g, c, l, d, ps, ms, t, rfl, tk, el, gl, cal, hp, fit, km, kw, k⟩ := h
    obtain ⟨q, dx, hx, hq⟩ := tk.ob
    have nom : ∀ {m : Str}, ¬ m = "_most" → ¬ m = "_stages" → ¬ m = "_story" → ¬ m = "_asked" → (tickF q st sg most).lookup m = none := fun h1 h2 h3 h4 => tickF_no q st sg most h1 h2 h3 h4
    have hr2 : Room 2 _ := hr.mono (by decide)
    have hr3 : Room 3 _ := hr.mono (by decide)
    have hr4 : Room 4 _ := hr.mono (by decide)
    refine ⟨_, pss_cons (ps_set (i := 3) scTkSwitch.nd rfl (.inl rfl) (pe_meth (pv 0) Y.cl hLA GLA hr4 bLA .nil (passes_call (W := fun cls d _ H => E cls d H) (takes_of rfl rfl rfl rfl) (fun _ _ _ _ h => h)) (pa_cons (pv 2) pa_nil)))
      (pss_cons (ps_expr (pe_callS ND.ok hr3 (by rfl) ND.at_ ND.kp ND.bi (fun σ => passAt (W := fun cls d _ H => E cls d H) (takes_of rfl rfl rfl rfl) σ) (pa_cons (pv 3) (pa_cons (pv 2) pa_nil))))
      (pss_one (ps_expr (pe_meth (pv 0) Y.cl hGO GGO hr3 bGO .nil pass0 (pa_cons (pe_tup (pa_cons pe_str (pa_cons (pv 1) (pa_cons (pv 2) pa_nil)))) (pa_cons (pv 1) (pa_cons (pv 3) (pa_cons (pe_prop (pv 0) Y.cl Y3.of Y3.ok hr2 Y3.bi .nil pass0 rfl) pa_nil)))))))), ?_⟩
    refine ⟨_, rfl, x, dx, _, rfl, hx, nom (by decide +kernel) (by decide +kernel) (by decide +kernel) (by decide +kernel), _, rfl, ⟨x, st, sg, most, x0, a0, t0, es, gs, g, t, rfl, tk, km, fun le H1 s1 => ?_⟩⟩
    refine ⟨_, rfl, _, rfl, ⟨_, t, rfl, fun z => (kw le z).same s1, fun nz => ?_⟩⟩
    have tk1 := tk.same s1
    replace k := k le nz
    refine ⟨_, rfl, x, dx, _, rfl, s1 _ _ hx, nom (by decide +kernel) (by decide +kernel) (by decide +kernel) (by decide +kernel), _, rfl, _, rfl, (by show 3 ≤ sizeLine; decide), fun e ne => ?_⟩
    have s2 := same_new (o := .tup [.str "switch", .ref c, .int t]) ne
    have sl2 := s2 _ _ tk1.sl
    refine ⟨_, rfl, _, rfl, _, rfl, x, dx, _, rfl, s2 _ _ (s1 _ _ hx), ⟨x, st, sg, most, x0, a0, t0, es, gs, g, rfl, tk1.same s2, ?_⟩⟩
    have s12 := s1.trans s2
    refine ⟨x, st, sg, most, x0, a0, t0, es, gs ++ [g], e, c, l, d, ps, ms, _, t, g.st, [.str "switch", .ref c], rfl, tk1.same s2, upd_same, cal.same s12, hp, fit, by omega, by rw [List.length_append]; show gs.length + 1 < 1000; omega, fun H' s' tk' ns f => ?_⟩
    refine k H' e s' tk' (f _ _ upd_same (fun z => ?_) (fun z => ?_)) (s1.free ne) (s12.free ns) fun c o h1 n1 n2 => f _ _ (s12 _ _ h1) n1 n2
    · have := s2 _ _ tk1.sy
      rw [← z, upd_same] at this
      cases this
    · rw [← z, upd_same] at sl2
      cases sl2
end

section
variable {P : Program} {w : World} {K : PySem.W.Frag} {mg : Str → Option Value} {base : Heap}
theorem scTkEnlarge : FnScope ["self", "amount", "moment", "left", "call"] ["self", "amount", "moment"] (defScope sTkEnlarge) := ⟨rfl, rfl, rfl, by decide +kernel, rfl, by decide +kernel, by decide +kernel⟩
theorem ok_tkEnlarge {f fND fA gLA gGO p3 g3 C T S CM CW CA : Addr} {fd dND dA dLA dGO d3 : FuncData} (F : Fun K "enlarge" "Ticket.enlarge" sTkEnlarge f fd) (Z : StC K mg S) (Y : TkC K T) (AM : AtX P w K mg base 3 "check_amount" ["amount"] (spAmountX CA) fA dA)
    (ND : AtX P w K mg base 3 "check_not_done" ["left", "moment"] (spNotDone CW) fND dND) (hLA : Meth K T "left_at" gLA) (GLA : FnOk P w K mg base (L2.CX P w) 4 gLA dLA ["self", "moment"] (spTkLeftAt C T S CM)) (bLA : Binds K dLA ["self", "moment"] [])
    (Y3 : Pp P w K mg base T "is_paused" (spTkPaused C T S) p3 g3 d3) (hGO : Meth K T "_go_on" gGO) (GGO : FnOk P w K mg base CX0 3 gGO dGO ["self", "call", "calendar", "amount", "still"] (spTkGo C T S)) (bGO : Binds K dGO ["self", "call", "calendar", "amount", "still"] []) :
    FnOk P w K mg base (L2.CX P w) 5 f fd ["self", "amount", "moment"] (spTkEnlarge C T S CM CW CA) := by
  refine F.okX scTkEnlarge (fun vs H Q E h => ?_) (fun cdv A outer s H vs Q E hr h => ?_)
  · obtain ⟨x, st, sg, most, x0, a0, t0, es, gs, g, am, t, rfl, _⟩ := h
    rfl
  · obtain ⟨x, st, sg, most, x0, a0, t0, es, gs, g, am, t, rfl, tk, el, gl, km, ka, kw, k⟩ := h
    obtain ⟨q, dx, hx, hq⟩ := tk.ob
    have nom : ∀ {m : Str}, ¬ m = "_most" → ¬ m = "_stages" → ¬ m = "_story" → ¬ m = "_asked" → (tickF q st sg most).lookup m = none := fun h1 h2 h3 h4 => tickF_no q st sg most h1 h2 h3 h4
    have hr2 : Room 2 _ := hr.mono (by decide)
    have hr3 : Room 3 _ := hr.mono (by decide)
    have hr4 : Room 4 _ := hr.mono (by decide)
    refine ⟨_, pss_cons (ps_set (i := 3) scTkEnlarge.nd rfl (.inl rfl) (pe_meth (pv 0) Y.cl hLA GLA hr4 bLA .nil (passes_call (W := fun cls d _ H => E cls d H) (takes_of rfl rfl rfl rfl) (fun _ _ _ _ h => h)) (pa_cons (pv 2) pa_nil)))
      (pss_cons (ps_expr (pe_callS AM.ok hr3 (by rfl) AM.at_ AM.kp AM.bi (fun σ => passAt (W := fun cls d _ H => E cls d H) (takes_of rfl rfl rfl rfl) σ) (pa_cons (pv 1) pa_nil)))
      (pss_cons (ps_expr (pe_callS ND.ok hr3 (by rfl) ND.at_ ND.kp ND.bi (fun σ => passAt (W := fun cls d _ H => E cls d H) (takes_of rfl rfl rfl rfl) σ) (pa_cons (pv 3) (pa_cons (pv 2) pa_nil))))
      (pss_cons (ps_set (i := 4) scTkEnlarge.nd rfl (.inl rfl) (pe_tup (pa_cons pe_str (pa_cons (pv 1) (pa_cons (pv 2) pa_nil)))))
      (pss_one (ps_expr (pe_meth (pv 0) Y.cl hGO GGO hr3 bGO .nil pass0 (pa_cons (pv 4) (pa_cons (pe_fld (pe_ix ix_list (pe_fld (pv 0) rfl) (pe_un un_neg pe_int) (fun _ _ => rfl)) rfl) (pa_cons (pe_op op_add (pv 3) (pv 1)) (pa_cons (pe_prop (pv 0) Y.cl Y3.of Y3.ok hr2 Y3.bi .nil pass0 rfl) pa_nil)))))))))), ?_⟩
    refine ⟨_, rfl, x, dx, _, rfl, hx, nom (by decide +kernel) (by decide +kernel) (by decide +kernel) (by decide +kernel), _, rfl, ⟨x, st, sg, most, x0, a0, t0, es, gs, g, t, rfl, tk, km, fun le H1 s1 => ?_⟩⟩
    refine ⟨_, rfl, ⟨am, rfl, fun z => (ka le z).same s1, fun am0 => ?_⟩⟩
    refine ⟨_, rfl, _, rfl, ⟨_, t, rfl, fun z => (kw le am0 z).same s1, fun nz => ?_⟩⟩
    have tk1 := tk.same s1
    replace k := k le am0 nz
    obtain ⟨⟨dg, hg⟩, cal, hp, fit⟩ := tk1.sa g (List.mem_append_right _ List.mem_cons_self)
    refine ⟨_, rfl, _, rfl, (by show 3 ≤ sizeLine; decide), fun e ne => ?_⟩
    have s2 := same_new (o := .tup [.str "enlarge", .int am, .int t]) ne
    have sl2 := s2 _ _ tk1.sl
    refine ⟨_, rfl, x, dx, _, rfl, s2 _ _ (s1 _ _ hx), nom (by decide +kernel) (by decide +kernel) (by decide +kernel) (by decide +kernel), _, rfl, ?_⟩
    refine ⟨_, rfl, x, T, dx, _, _, rfl, s2 _ _ (s1 _ _ hx), Y.cl, Y.ng, tickF_sg q st sg most, _, rfl, sg, _, _, _, rfl, rfl, SqL.of sl2, last_at, g.a, S, dg, _, _, rfl, s2 _ _ hg, Z.cl, Z.nc, stageF_c _ _ _ _, ?_⟩
    refine ⟨_, rfl, _, rfl, _, _, rfl, rfl, _, rfl, x, dx, _, rfl, s2 _ _ (s1 _ _ hx), ⟨x, st, sg, most, x0, a0, t0, es, gs, g, rfl, tk1.same s2, ?_⟩⟩
    have s12 := s1.trans s2
    refine ⟨x, st, sg, most, x0, a0, t0, es, gs ++ [g], e, g.x, g.l, g.d, g.ps, g.ms, _, t, g.st, [.str "enlarge", .int am], rfl, tk1.same s2, upd_same, cal.same s2, hp, fit, by omega, by rw [List.length_append]; show gs.length + 1 < 1000; omega, fun H' s' tk' ns f => ?_⟩
    refine k H' e s' tk' (f _ _ upd_same (fun z => ?_) (fun z => ?_)) (s1.free ne) (s12.free ns) fun c o h1 n1 n2 => f _ _ (s12 _ _ h1) n1 n2
    · have := s2 _ _ tk1.sy
      rw [← z, upd_same] at this
      cases this
    · rw [← z, upd_same] at sl2
      cases sl2
end

def lawLeft (ps : List Int) (ms : List (Int × Int)) (am b : Int) (st : Bool) (t : Int) : Int := if st = true then am else if am - workOf ps ms b t > 0 then am - workOf ps ms b t else 0

theorem ne_self (v : V) : (!decide (v = v)) = false := by rw [decide_eq_true rfl]; rfl
theorem SdAt.fr {C S : Addr} {H J : Hp} {p : Addr} {n : Nat} {g : SD} (h : SdAt C S H g) (wl : Well H p n) (f : Fr p H J) (nl : g.l ≠ p) : SdAt C S J g := by
  obtain ⟨⟨dx, o⟩, ⟨⟨dy, c1⟩, c2, c3⟩, hp, t⟩ := h
  obtain ⟨u, v, w, hw, _⟩ := wl
  refine ⟨⟨dx, f _ _ o fun z => ?_⟩, ⟨⟨dy, f _ _ c1 fun z => ?_⟩, f _ _ c2 nl, f _ _ c3 fun z => ?_⟩, hp, t⟩
  · rw [z, hw] at o
    cases o
  · rw [z, hw] at c1
    cases c1
  · rw [z, hw] at c3
    cases c3
theorem ref_int {es : List Addr} {a b c : Int} (e : es.map V.ref = [V.int a, V.int b, V.int c]) : False := by
  cases es with
  | nil => cases e
  | cons x xs => cases (List.cons.inj e).1
theorem TkAt.fr {C T S : Addr} {H J : Hp} {p : Addr} {n : Nat} {x st sg : Addr} {most : V} {x0 : Addr} {a0 t0 : Int} {es : List Addr} {gs : List SD} (h : TkAt C T S H x st sg most x0 a0 t0 es gs) (wl : Well H p n) (f : Fr p H J) (nl : ∀ g ∈ gs, g.l ≠ p) : TkAt C T S J x st sg most x0 a0 t0 es gs := by
  obtain ⟨⟨q, dx, o, a⟩, s1, s2, ne, s3⟩ := h
  have wl' := wl
  obtain ⟨u, v, w, hw, _⟩ := wl
  refine ⟨⟨q, dx, f _ _ o fun z => ?_, f _ _ a fun z => ?_⟩, f _ _ s1 fun z => ?_, f _ _ s2 fun z => ?_, ne, fun g hg => (s3 g hg).fr wl' f (nl g hg)⟩
  · rw [z, hw] at o
    cases o
  · rw [z, hw] at a
    cases a
  · rw [z, hw] at s1
    have e : es.map V.ref = [V.int u, V.int v, V.int w] := by injection s1 with e; injection e with e; exact e.symm
    exact ref_int e
  · rw [z, hw] at s2
    have e : (gs.map fun g => g.a).map V.ref = [V.int u, V.int v, V.int w] := by
      rw [List.map_map]
      injection s2 with e
      injection e with e
      exact e.symm
    exact ref_int e
theorem left_real {s c l d : Addr} {ps : List Int} {ms : List (Int × Int)} {am t u : Int} (hp : Paces ps) (fit : Fit ms) (g : t ≤ u) : leftOf ⟨s, c, l, d, ps, realOf ps ms, am, t, false⟩ u = lawLeft ps ms am t false u := by
  show (if false = true then am else if am - workOf ps (realOf ps ms) t u > 0 then am - workOf ps (realOf ps ms) t u else 0) = (if false = true then am else if am - workOf ps ms t u > 0 then am - workOf ps ms t u else 0)
  rw [work_real hp.len0 fit.asc g]
theorem work_lo {ps : List Int} {ms : List (Int × Int)} (hp : Paces ps) (fit : Fit ms) {t u : Int} (g : t ≤ u) : 0 ≤ workOf ps ms t u := by
  obtain ⟨k, rfl⟩ : ∃ k : Nat, u = t + k := ⟨(u - t).toNat, by omega⟩
  rw [work_sum hp.len0 fit.asc]
  exact (sumSp_le hp fit t k).1
theorem left_fits {ps : List Int} {ms : List (Int × Int)} {am t u : Int} (hp : Paces ps) (fit : Fit ms) (g : t ≤ u) (a0 : 0 ≤ am) (a1 : am < 10 ^ 33) : 0 ≤ lawLeft ps ms am t false u ∧ lawLeft ps ms am t false u < 10 ^ 33 := by
  have := work_lo hp fit g
  unfold lawLeft
  rw [if_neg (by decide)]
  split <;> omega
theorem rp_int_fits {v : Int} (h0 : -10 ^ 40 < v) (h1 : v < 10 ^ 40) : v.natAbs.log2 < 1920 := by
  by_cases z : v.natAbs = 0
  · rw [z]
    decide
  · have h2 : v.natAbs < 10 ^ 40 := by omega
    exact (Nat.log2_lt z).mpr (Nat.lt_trans h2 (by decide))
theorem isEnd_work0 {ps : List Int} {ms : List (Int × Int)} {t am r : Int} (h : IsEnd ps ms t am r) (g : 0 < am) : t < r := by
  rcases Int.lt_or_le t r with c | c
  · exact c
  · have e : r = t := by have := h.1; omega
    have := h.2.1
    rw [e, work_self] at this
    omega

/-! ### tickets in use -/
def calm (sp : Sp) : Sp := fun vs H Q _ => sp vs H Q E0
theorem calmly {P : Program} {w : World} {K : PySem.W.Frag} {mg : Str → Option Value} {base : Heap} {k : Nat} {f : Addr} {fd : FuncData} {ps : List Str} {sp : Sp} (F : FnOk P w K mg base (L2.CX P w) k f fd ps sp) : FnOk P w K mg base CX0 k f fd ps (calm sp) := calmOk F fun _ _ _ _ h => h
/-- what stays but for some places -/
def FrN (ns : List Addr) (H H' : Hp) : Prop := ∀ c o, H c = some o → c ∉ ns → H' c = some o
theorem FrN.trans {ns : List Addr} {H J L : Hp} (a : FrN ns H J) (b : FrN ns J L) : FrN ns H L := fun c o h n => b c o (a c o h n) n
theorem FrN.of {ns : List Addr} {H J : Hp} (a : Same H J) : FrN ns H J := fun c o h _ => a c o h
theorem FrN.fr {ns : List Addr} {p : Addr} {H J : Hp} (a : Fr p H J) (m : p ∈ ns) : FrN ns H J := fun c o h n => a c o h fun z => n (z ▸ m)
theorem FrN.fr2 {ns : List Addr} {p q : Addr} {H J : Hp} (a : Fr2 p q H J) (m : p ∈ ns) (m2 : q ∈ ns) : FrN ns H J := fun c o h n => a c o h (fun z => n (z ▸ m)) fun z => n (z ▸ m2)
theorem FrN.upd {ns : List Addr} {p : Addr} {o : HO} {H : Hp} (m : p ∈ ns) : FrN ns H (upd H p o) := fun c u h n => by
  rw [upd_ne (fun z => n (by rw [z]; exact m))]
  exact h
theorem Tups.fr2 {H J : Hp} {st sg : Addr} {ts : List Addr} {ms : List (Int × Int)} {zs ys : List V} (tp : Tups H ts ms) (f : Fr2 st sg H J) (r1 : H st = some (.lst zs)) (r2 : H sg = some (.lst ys)) : Tups J ts ms :=
  tp.imp fun t xs e => f _ _ e (fun z => by rw [z, r1] at e; cases e) (fun z => by rw [z, r2] at e; cases e)
theorem TkAt.refs {C T S : Addr} {H : Hp} {x st sg : Addr} {most : V} {x0 : Addr} {a0 t0 : Int} {es : List Addr} {gs : List SD} (h : TkAt C T S H x st sg most x0 a0 t0 es gs) : H sg = some (.lst ((gs.map fun g => g.a).map V.ref)) := by
  rw [List.map_map]
  exact h.sl
theorem Well.fr2 {H J : Hp} {p st sg : Addr} {n : Nat} {zs ys : List Addr} (h : Well H p n) (f : Fr2 st sg H J) (r1 : H st = some (.lst (zs.map V.ref))) (r2 : H sg = some (.lst (ys.map V.ref))) : Well J p n := by
  obtain ⟨a, b, c, h1, h2⟩ := h
  refine ⟨a, b, c, f _ _ h1 (fun e => ?_) (fun e => ?_), h2⟩
  · rw [e, r1] at h1
    injection h1 with h1
    injection h1 with h1
    exact ref_int h1
  · rw [e, r2] at h1
    injection h1 with h1
    injection h1 with h1
    exact ref_int h1

theorem pause_ok {C T S CM CW : Addr} {H : Hp} {Q : VK} {E : XK} {x st sg : Addr} {most : V} {x0 : Addr} {a0 t0 : Int} {es : List Addr} {gs : List SD} {g : SD} {t : Int} (tk : TkAt C T S H x st sg most x0 a0 t0 es (gs ++ [g])) (el : es.length < 900) (gl : gs.length < 900)
    (le : g.b ≤ t) (nz : leftOf g t ≠ 0) (hs : g.st = false) (k : Gone C T S H Q x st sg most x0 a0 t0 es gs g [.str "pause"] g.x g.l g.d g.ps g.ms (leftOf g t) t true) : calm (spTkPause C T S CM CW) [.ref x, .int t] H Q E :=
  ⟨x, st, sg, most, x0, a0, t0, es, gs, g, t, rfl, tk, el, gl, fun z => absurd le (by omega), fun _ z => (z.elim nz (fun q => by rw [hs] at q; cases q)).elim, fun _ _ _ => k⟩
theorem resume_ok {C T S CM CW : Addr} {H : Hp} {Q : VK} {E : XK} {x st sg : Addr} {most : V} {x0 : Addr} {a0 t0 : Int} {es : List Addr} {gs : List SD} {g : SD} {t : Int} (tk : TkAt C T S H x st sg most x0 a0 t0 es (gs ++ [g])) (el : es.length < 900) (gl : gs.length < 900)
    (le : g.b ≤ t) (hs : g.st = true) (k : Gone C T S H Q x st sg most x0 a0 t0 es gs g [.str "resume"] g.x g.l g.d g.ps g.ms (leftOf g t) t false) : calm (spTkResume C T S CM CW) [.ref x, .int t] H Q E :=
  ⟨x, st, sg, most, x0, a0, t0, es, gs, g, t, rfl, tk, el, gl, fun z => absurd le (by omega), fun _ z => (by rw [hs] at z; cases z), fun _ _ => k⟩

theorem switch_ok {C T S CM CW : Addr} {H : Hp} {Q : VK} {E : XK} {x st sg : Addr} {most : V} {x0 : Addr} {a0 t0 : Int} {es : List Addr} {gs : List SD} {g : SD} {c l d : Addr} {ps : List Int} {ms : List (Int × Int)} {t : Int} (tk : TkAt C T S H x st sg most x0 a0 t0 es (gs ++ [g])) (el : es.length < 900) (gl : gs.length < 900)
    (cal : CalAt C H c l d ps ms) (hp : Paces ps) (fit : Fit ms) (le : g.b ≤ t) (nz : leftOf g t ≠ 0) (k : Gone C T S H Q x st sg most x0 a0 t0 es gs g [.str "switch", .ref c] c l d ps ms (leftOf g t) t g.st) : calm (spTkSwitch C T S CM CW) [.ref x, .ref c, .int t] H Q E :=
  ⟨x, st, sg, most, x0, a0, t0, es, gs, g, c, l, d, ps, ms, t, rfl, tk, el, gl, cal, hp, fit, fun z => absurd le (by omega), fun _ z => (nz z).elim, fun _ _ => k⟩
theorem enlarge_ok {C T S CM CW CA : Addr} {H : Hp} {Q : VK} {E : XK} {x st sg : Addr} {most : V} {x0 : Addr} {a0 t0 : Int} {es : List Addr} {gs : List SD} {g : SD} {am t : Int} (tk : TkAt C T S H x st sg most x0 a0 t0 es (gs ++ [g])) (el : es.length < 900) (gl : gs.length < 900)
    (le : g.b ≤ t) (am0 : 0 ≤ am) (nz : leftOf g t ≠ 0) (k : Gone C T S H Q x st sg most x0 a0 t0 es gs g [.str "enlarge", .int am] g.x g.l g.d g.ps g.ms (leftOf g t + am) t g.st) : calm (spTkEnlarge C T S CM CW CA) [.ref x, .int am, .int t] H Q E :=
  ⟨x, st, sg, most, x0, a0, t0, es, gs, g, am, t, rfl, tk, el, gl, fun z => absurd le (by omega), fun _ z => absurd am0 (by omega), fun _ _ z => (nz z).elim, fun _ _ _ => k⟩

/-! ### two lists of speeds and changes -/
structure CL where
  (l a b : Addr) (ps : List Int) (ts : List Addr) (ms : List (Int × Int))
structure CLAt (ns : List Addr) (H : Hp) (c : CL) : Prop where
  l : H c.l = some (.lst [.ref c.a, .ref c.b])
  a : H c.a = some (.lst (c.ps.map V.int))
  b : H c.b = some (.lst (c.ts.map V.ref))
  tp : Tups H c.ts c.ms
  hp : Paces c.ps
  fit : Fit c.ms
  len : c.ms.length ≤ 3
  nl : c.l ∉ ns
  na : c.a ∉ ns
  nb : c.b ∉ ns
  nt : ∀ t ∈ c.ts, t ∉ ns
theorem Tups.frn {ns : List Addr} {H J : Hp} (f : FrN ns H J) : ∀ {ts : List Addr} {ms : List (Int × Int)}, Tups H ts ms → (∀ t ∈ ts, t ∉ ns) → Tups J ts ms
  | [], [], _, _ => trivial
  | t :: ts, m :: ms, h, g => ⟨f _ _ h.1 (g t List.mem_cons_self), Tups.frn f h.2 fun t ht => g t (List.mem_cons_of_mem _ ht)⟩
theorem CLAt.frn {ns : List Addr} {H J : Hp} {c : CL} (h : CLAt ns H c) (f : FrN ns H J) : CLAt ns J c :=
  ⟨f _ _ h.l h.nl, f _ _ h.a h.na, f _ _ h.b h.nb, Tups.frn f h.tp h.nt, h.hp, h.fit, h.len, h.nl, h.na, h.nb, h.nt⟩
structure TwoAt (ns : List Addr) (H : Hp) (ll : Addr) (c0 c1 : CL) : Prop where
  at_ : H ll = some (.lst [.ref c0.l, .ref c1.l])
  nll : ll ∉ ns
  c0 : CLAt ns H c0
  c1 : CLAt ns H c1
theorem TwoAt.frn {ns : List Addr} {H J : Hp} {ll : Addr} {c0 c1 : CL} (h : TwoAt ns H ll c0 c1) (f : FrN ns H J) : TwoAt ns J ll c0 c1 := ⟨f _ _ h.at_ h.nll, h.nll, h.c0.frn f, h.c1.frn f⟩
def pick (c0 c1 : CL) (w : Int) : CL := if w = 0 then c0 else c1
theorem TwoAt.pick {ns : List Addr} {H : Hp} {ll : Addr} {c0 c1 : CL} (h : TwoAt ns H ll c0 c1) (w : Int) : CLAt ns H (pick c0 c1 w) := by
  unfold DK.pick
  split
  · exact h.c0
  · exact h.c1
theorem at_pick {c0 c1 : CL} {w : Int} (h0 : 0 ≤ w) (h1 : w ≤ 1) : atI [V.ref c0.l, V.ref c1.l] w = some (.ref (pick c0 c1 w).l) := by
  rcases (show w = 0 ∨ w = 1 by omega) with rfl | rfl
  · exact atI_nat (j := 0) rfl
  · exact atI_nat (j := 1) rfl
/-! ### a moment more -/
theorem work_next {ps : List Int} {ms : List (Int × Int)} (hp : Paces ps) (fit : Fit ms) {b t : Int} (g : b ≤ t) : workOf ps ms b (t + 1) = workOf ps ms b t + speedAt ps ms t := by
  unfold workOf
  rw [tally_step hp.len0, gain_step fit.asc g]
  omega
theorem left_next {ps : List Int} {ms : List (Int × Int)} (hp : Paces ps) (fit : Fit ms) {am b t : Int} (g : b ≤ t) (h : 0 < lawLeft ps ms am b false t) :
    lawLeft ps ms am b false (t + 1) = if lawLeft ps ms am b false t - speedAt ps ms t > 0 then lawLeft ps ms am b false t - speedAt ps ms t else 0 := by
  have e := work_next hp fit g
  unfold lawLeft at h ⊢
  simp only [Bool.false_eq_true, if_false] at h ⊢
  have p : am - workOf ps ms b t > 0 := by
    by_cases c : am - workOf ps ms b t > 0
    · exact c
    · rw [if_neg c] at h
      omega
  rw [if_pos p, e]
  congr 1
  · rw [eq_iff_iff]
    omega
  · omega
theorem left_stay {ps : List Int} {ms : List (Int × Int)} (hp : Paces ps) (fit : Fit ms) {am b t : Int} (g : b ≤ t) (h : lawLeft ps ms am b false t = 0) : lawLeft ps ms am b false (t + 1) = 0 := by
  have e := work_next hp fit g
  have s := speed_lo hp fit t
  unfold lawLeft at h ⊢
  simp only [Bool.false_eq_true, if_false] at h ⊢
  have p : ¬ am - workOf ps ms b t > 0 := by
    by_cases c : am - workOf ps ms b t > 0
    · rw [if_pos c] at h
      omega
    · exact c
  rw [if_neg (by omega)]
theorem work_mono2 {ps : List Int} {ms : List (Int × Int)} (hp : Paces ps) (fit : Fit ms) {b u t : Int} (h1 : b ≤ u) (h2 : u ≤ t) : workOf ps ms b u ≤ workOf ps ms b t := by
  obtain ⟨j, rfl⟩ : ∃ j : Nat, u = b + j := ⟨(u - b).toNat, by omega⟩
  obtain ⟨k, rfl⟩ : ∃ k : Nat, t = b + j + k := ⟨(t - (b + j)).toNat, by omega⟩
  rw [work_sum hp.len0 fit.asc, show b + (j : Int) + k = b + ((j + k : Nat) : Int) by omega, work_sum hp.len0 fit.asc, sumSp_add]
  have := (sumSp_le hp fit (b + j) k).1
  omega
theorem work_parts {ps : List Int} {ms : List (Int × Int)} (hp : Paces ps) (fit : Fit ms) {b u t : Int} (h1 : b ≤ u) (h2 : u ≤ t) : workOf ps ms b t = workOf ps ms b u + workOf ps ms u t := by
  obtain ⟨j, rfl⟩ : ∃ j : Nat, u = b + j := ⟨(u - b).toNat, by omega⟩
  obtain ⟨k, rfl⟩ : ∃ k : Nat, t = b + j + k := ⟨(t - (b + j)).toNat, by omega⟩
  rw [work_sum hp.len0 fit.asc, work_sum hp.len0 fit.asc (b + j) k, show b + (j : Int) + k = b + ((j + k : Nat) : Int) by omega, work_sum hp.len0 fit.asc, sumSp_add]
/-- the step at which nothing is left any more -/
theorem end_here {ps : List Int} {ms : List (Int × Int)} (hp : Paces ps) (fit : Fit ms) {am b t : Int} (g : b ≤ t) (h : 0 < lawLeft ps ms am b false t) (h2 : lawLeft ps ms am b false (t + 1) = 0) : IsEnd ps ms b am (t + 1) := by
  unfold lawLeft at h h2
  simp only [Bool.false_eq_true, if_false] at h h2
  have p : am - workOf ps ms b t > 0 := by
    by_cases c : am - workOf ps ms b t > 0
    · exact c
    · rw [if_neg c] at h
      omega
  have p2 : ¬ am - workOf ps ms b (t + 1) > 0 := by
    by_cases c : am - workOf ps ms b (t + 1) > 0
    · rw [if_pos c] at h2
      omega
    · exact c
  refine ⟨by omega, by omega, fun u h3 h4 => ?_⟩
  have := work_mono2 hp fit h3 (show u ≤ t by omega)
  omega
theorem end_later {ps : List Int} {ms : List (Int × Int)} (hp : Paces ps) (fit : Fit ms) {am b t r : Int} (g : b ≤ t) (h : 0 < lawLeft ps ms am b false t) (e : IsEnd ps ms b am r) : IsEnd ps ms t (lawLeft ps ms am b false t) r := by
  unfold lawLeft at h ⊢
  simp only [Bool.false_eq_true, if_false] at h ⊢
  have p : am - workOf ps ms b t > 0 := by
    by_cases c : am - workOf ps ms b t > 0
    · exact c
    · rw [if_neg c] at h
      omega
  rw [if_pos p]
  have tr : t ≤ r := by
    rcases Int.lt_or_le r t with c | c
    · have := work_mono2 hp fit e.1 (show r ≤ t by omega)
      have := e.2.1
      omega
    · exact c
  have sp := work_parts hp fit g tr
  refine ⟨tr, by have := e.2.1; omega, fun u h3 h4 => ?_⟩
  have su := work_parts hp fit g h3
  have := e.2.2 u (by omega) h4
  omega
theorem TkAt.putS {C T S : Addr} {H : Hp} {z : Addr} {o : HO} {i j : Int} {b : Bool} {x st sg : Addr} {most : V} {x0 : Addr} {a0 t0 : Int} {es : List Addr} {gs : List SD} (h : TkAt C T S H x st sg most x0 a0 t0 es gs) (hz : H z = some (.lst [.int i, .bl b, .int j])) : TkAt C T S (upd H z o) x st sg most x0 a0 t0 es gs := by
  obtain ⟨⟨q, dx, o1, o2⟩, s1, s2, ne, s3⟩ := h
  have refs : ∀ {zs : List Addr}, zs.map V.ref = [.int i, .bl b, .int j] → False := fun {zs} e => by
    cases zs with
    | nil => cases e
    | cons z1 zs => cases (List.cons.inj e).1
  refine ⟨⟨q, dx, ?_, ?_⟩, ?_, ?_, ne, fun g hg => ?_⟩
  · rw [upd_ne (fun e => by rw [e, hz] at o1; cases o1)]
    exact o1
  · rw [upd_ne (fun e => by rw [e, hz] at o2; cases o2)]
    exact o2
  · rw [upd_ne (fun e => by rw [e, hz] at s1; injection s1 with s1; injection s1 with s1; exact refs s1.symm)]
    exact s1
  · rw [upd_ne (fun e => by
      rw [e, hz] at s2
      injection s2 with s2
      injection s2 with s2
      have : (gs.map fun g => g.a).map V.ref = [.int i, .bl b, .int j] := by rw [List.map_map]; exact s2.symm
      exact refs this)]
    exact s2
  · obtain ⟨⟨dg, g1⟩, ⟨⟨dc, g2⟩, g3, g4⟩, hp, fit⟩ := s3 g hg
    refine ⟨⟨dg, ?_⟩, ⟨⟨dc, ?_⟩, ?_, ?_⟩, hp, fit⟩
    · rw [upd_ne (fun e => by rw [e, hz] at g1; cases g1)]
      exact g1
    · rw [upd_ne (fun e => by rw [e, hz] at g2; cases g2)]
      exact g2
    · rw [upd_ne (fun e => by
        rw [e, hz] at g3
        injection g3 with g3
        injection g3 with g3
        cases hq : g.ps with
        | nil => rw [hq] at g3; cases g3
        | cons v vs =>
          rw [hq] at g3
          cases vs with
          | nil => cases (List.cons.inj g3).2
          | cons v2 vs => cases (List.cons.inj (List.cons.inj g3).2).1)]
      exact g3
    · rw [upd_ne (fun e => by rw [e, hz] at g4; cases g4)]
      exact g4
theorem gain_lo {ps : List Int} (hp : Paces ps) {lo hi : Int} : ∀ {ms : List (Int × Int)}, (∀ m ∈ ms, 0 ≤ m.2 ∧ m.2 ≤ 3) → -(3 * (ms.length : Int)) ≤ gain ps ms lo hi
  | [], _ => by
    have : gain ps [] lo hi = 0 := rfl
    rw [this]
    simp
  | m :: ms, h => by
    have ih := gain_lo hp (lo := lo) (hi := hi) (ms := ms) fun m' hm' => h m' (List.mem_cons_of_mem _ hm')
    have hv := h m List.mem_cons_self
    obtain ⟨v, hv2, _, e⟩ := atI_ints (xs := ps) (Int.emod_nonneg m.1 (show (ps.length : Int) ≠ 0 by have := hp.len0; omega)) (Int.emod_lt_of_pos m.1 (show (0 : Int) < ps.length by have := hp.len0; omega))
    have pv : 0 ≤ paceOf ps m.1 ∧ paceOf ps m.1 ≤ 3 := by
      have e2 := atI_pace (ps := ps) (t := m.1) hp.len0
      rw [e] at e2
      injection e2 with e2
      injection e2 with e2
      rw [← e2]
      exact hp.lo v hv2
    rw [gain_cons, List.length_cons]
    split <;> omega
theorem end_hi {ps : List Int} {ms : List (Int × Int)} (hp : Paces ps) (fit : Fit ms) {t a r : Int} (a0 : 0 ≤ a) (h : IsEnd ps ms t a r) : r ≤ t + (a + 3 * ms.length + 1) * ps.length := by
  rcases Int.lt_or_le (t + (a + 3 * ms.length + 1) * ps.length) r with c | c
  · have l0 := hp.len0
    have x0 : 0 ≤ a + 3 * (ms.length : Int) + 1 := by omega
    generalize hX : a + 3 * (ms.length : Int) + 1 = X at c x0 ⊢
    have nn : 0 ≤ X * (ps.length : Int) := Int.mul_nonneg x0 (by omega)
    have w := h.2.2 _ (show t ≤ t + X * ps.length by omega) c
    have g := gain_lo hp (lo := t) (hi := t + X * ps.length) fit.val
    have tw := tally_weeks l0 t X
    have s1 := sum_pos hp
    unfold workOf at w
    rw [tw] at w
    have q := Int.mul_le_mul_of_nonneg_left s1 x0
    rw [Int.mul_one] at q
    omega
  · exact c
/-- what the law follows -/
structure Fol (C T S : Addr) (H : Hp) (p : Addr) (n : Nat) (x z st sg x0 ll : Addr) (c0 c1 : CL) (a0 t0 : Int) (es : List Addr) (gs : List SD) (s c l d : Addr) (left w : Int) (pa : Bool) (am b t : Int) : Prop where
  w_ : Well H p n
  hz : H z = some (.lst [.int left, .bl pa, .int w])
  two : TwoAt [p, z, st, sg] H ll c0 c1
  tk : TkAt C T S H x st sg .non x0 a0 t0 es (gs ++ [⟨s, c, l, d, (pick c0 c1 w).ps, realOf (pick c0 c1 w).ps (pick c0 c1 w).ms, am, b, pa⟩])
  nl : ∀ g ∈ gs ++ [(⟨s, c, l, d, (pick c0 c1 w).ps, realOf (pick c0 c1 w).ps (pick c0 c1 w).ms, am, b, pa⟩ : SD)], g.l ≠ p
  w0 : 0 ≤ w
  w1 : w ≤ 1
  am0 : 0 ≤ am
  bt : b ≤ t
  lf : lawLeft (pick c0 c1 w).ps (pick c0 c1 w).ms am b pa t = left
  zp : z ≠ p
  zt : z ≠ st
  zg : z ≠ sg
  zn : H z ≠ none
theorem Fol.same {C T S : Addr} {H J : Hp} {p : Addr} {n : Nat} {x z st sg x0 ll : Addr} {c0 c1 : CL} {a0 t0 : Int} {es : List Addr} {gs : List SD} {s c l d : Addr} {left w : Int} {pa : Bool} {am b t : Int} (h : Fol C T S H p n x z st sg x0 ll c0 c1 a0 t0 es gs s c l d left w pa am b t) (f : Same H J) : Fol C T S J p n x z st sg x0 ll c0 c1 a0 t0 es gs s c l d left w pa am b t :=
  ⟨h.w_.same f, f _ _ h.hz, h.two.frn (FrN.of f), h.tk.same f, h.nl, h.w0, h.w1, h.am0, h.bt, h.lf, h.zp, h.zt, h.zg, by rw [f _ _ h.hz]; simp⟩
theorem Fol.fr {C T S : Addr} {H J : Hp} {p : Addr} {n m : Nat} {x z st sg x0 ll : Addr} {c0 c1 : CL} {a0 t0 : Int} {es : List Addr} {gs : List SD} {s c l d : Addr} {left w : Int} {pa : Bool} {am b t : Int} (h : Fol C T S H p n x z st sg x0 ll c0 c1 a0 t0 es gs s c l d left w pa am b t) (f : Fr p H J) (wl : Well J p m) : Fol C T S J p m x z st sg x0 ll c0 c1 a0 t0 es gs s c l d left w pa am b t :=
  ⟨wl, f _ _ h.hz h.zp, h.two.frn (FrN.fr f (by simp)), h.tk.fr h.w_ f h.nl, h.nl, h.w0, h.w1, h.am0, h.bt, h.lf, h.zp, h.zt, h.zg, by rw [f _ _ h.hz h.zp]; simp⟩
theorem Fol.left {C T S : Addr} {H : Hp} {p : Addr} {n : Nat} {x z st sg x0 ll : Addr} {c0 c1 : CL} {a0 t0 : Int} {es : List Addr} {gs : List SD} {s c l d : Addr} {left w : Int} {pa : Bool} {am b t : Int} (h : Fol C T S H p n x z st sg x0 ll c0 c1 a0 t0 es gs s c l d left w pa am b t) :
    leftOf ⟨s, c, l, d, (pick c0 c1 w).ps, realOf (pick c0 c1 w).ps (pick c0 c1 w).ms, am, b, pa⟩ t = left := by
  have q := h.two.pick w
  cases pa with
  | true => exact h.lf
  | false => rw [left_real q.hp q.fit h.bt]; exact h.lf
def spEndL : Sp := fun vs H Q _ => ∃ (ns : List Addr) (z ll : Addr) (c0 c1 : CL) (left w u : Int) (pa : Bool), vs = [.ref z, .int u, .ref ll] ∧ H z = some (.lst [.int left, .bl pa, .int w]) ∧ TwoAt ns H ll c0 c1 ∧ 0 ≤ w ∧ w ≤ 1 ∧ 0 < left ∧ left ≤ 130 ∧
  ∀ r, IsEnd (pick c0 c1 w).ps (pick c0 c1 w).ms u left r → Q (.int r) H
section
variable {P : Program} {w : World} {K : PySem.W.Frag} {mg : Str → Option Value} {base : Heap}
theorem scEnd : FnScope ["state", "spot", "lists", "left", "paces", "marks", "step"] ["state", "spot", "lists"] (defScope sEnd) := ⟨rfl, rfl, rfl, by decide +kernel, rfl, by decide +kernel, by decide +kernel⟩
theorem ok_endL {f fP : Addr} {fd dP : FuncData} (F : Fun K "_law_end" "_law_end" sEnd f fd) (T : Blt mg) (Pc : At P w K mg base 1 "_law_pace" ["paces", "marks", "at"] spPace fP dP) : FnOk P w K mg base CX0 2 f fd ["state", "spot", "lists"] spEndL := by
  refine F.ok scEnd (fun vs H Q E h => ?_) (fun cdv A outer s H vs Q E hr h => ?_)
  · obtain ⟨ns, z, ll, c0, c1, left, w, u, pa, rfl, _⟩ := h
    rfl
  · obtain ⟨ns, z, ll, c0, c1, left, w, u, pa, rfl, hz, two, w0, w1, l0, l1, k⟩ := h
    have hr1 : Room 1 _ := hr.mono (by decide)
    refine ⟨_, pss_cons (ps_set (i := 3) scEnd.nd rfl (.inl rfl) (pe_ix ix_list (pv 0) pe_int (fun _ _ => rfl)))
      (pss_cons (ps_asg (pe_ix ix_list (pv 2) (pe_ix ix_list (pv 0) pe_int (fun _ _ => rfl)) (fun _ _ => rfl)) (pg_lst rfl (pgs_cons (pg_name (i := 4) scEnd.nd rfl (.inl rfl)) (pgs_cons (pg_name (i := 5) scEnd.nd rfl (.inl rfl)) pgs_nil))))
      (pss_cons (ps_for PassesOwn.never rfl (pi_range1 (by rfl) T.range (pa_cons pe_int pa_nil)) (pg_name (i := 6) scEnd.nd rfl (.inl rfl))
        (pss_cons (ps_if (pt_cmpR op_le (pv 3) pe_int (nomark _))
          (pss_one (ps_ret (pe_op op_add (pv 1) (pv 6))))
          pss_nil)
        (pss_one (ps_set (i := 3) scEnd.nd rfl (.inl rfl) (pe_op op_sub (pv 3) (pe_call Pc.ok hr1 (by rfl) Pc.at_ Pc.kp Pc.bi .nil pass0 (pa_cons (pv 4) (pa_cons (pv 5) (pa_cons (pe_op op_add (pv 1) (pv 6)) pa_nil)))))))))
      (pss_one (ps_ret pe_non)))), ?_⟩
    have pk := two.pick w
    have at_ : ∀ (i : Nat) (v : V), ([V.int left, .bl pa, .int w])[i]? = some v → atI [V.int left, .bl pa, .int w] (i : Int) = some v := fun i v e => atI_nat (j := i) e
    refine ⟨_, rfl, z, _, 0, _, rfl, rfl, SqL.of hz, at_ 0 _ rfl, ?_⟩
    refine ⟨_, rfl, _, rfl, z, _, 2, _, rfl, rfl, SqL.of hz, at_ 2 _ rfl, ll, _, _, _, rfl, rfl, SqL.of two.at_, at_pick w0 w1, ?_⟩
    refine ⟨_, _, rfl, SqL.of pk.l, rfl, _, _, rfl, _, [], rfl, rfl, ?_⟩
    have hp := pk.hp
    have fit := pk.fit
    have step : ∀ i : Nat, workOf (pick c0 c1 w).ps (pick c0 c1 w).ms u (u + (i + 1 : Nat)) = workOf (pick c0 c1 w).ps (pick c0 c1 w).ms u (u + i) + speedAt (pick c0 c1 w).ps (pick c0 c1 w).ms (u + i) := fun i => by
      rw [show u + ((i + 1 : Nat) : Int) = u + i + 1 by omega]
      exact work_next hp fit (by omega)
    refine ⟨2000, rfl, by decide, by decide, for_range (lo := 0) (n := 2000) (fun i σ J => ∃ (lf : Int) (y6 : Option V), σ = [some (.ref z), some (.int u), some (.ref ll), some (.int lf), some (.ref (pick c0 c1 w).a), some (.ref (pick c0 c1 w).b), y6] ∧ J = H ∧ lf = left - workOf (pick c0 c1 w).ps (pick c0 c1 w).ms u (u + i) ∧
        ∀ j : Nat, j < i → workOf (pick c0 c1 w).ps (pick c0 c1 w).ms u (u + j) < left) ⟨left, none, rfl, rfl, by rw [show u + ((0 : Nat) : Int) = u by omega, work_self]; omega, fun j h => absurd h (Nat.not_lt_zero _)⟩ ?_ ?_⟩
    · rintro i σ J hi ⟨lf, y6, rfl, rfl, hl, hb⟩
      refine ⟨_, rfl, _, _, rfl, rfl, _, rfl, ite2 (fun e => ?_) (fun e => ?_)⟩
      · have e : lf ≤ 0 := of_decide_eq_true e
        refine ⟨_, rfl, _, rfl, _, _, rfl, rfl, k _ ⟨by omega, ?_, fun v h1 h2 => ?_⟩⟩
        · rw [show u + (0 + (i : Int)) = u + i by omega]
          omega
        · obtain ⟨j, rfl⟩ : ∃ j : Nat, v = u + j := ⟨(v - u).toNat, by omega⟩
          exact hb j (by omega)
      · have e : 0 < lf := by
          rcases Int.lt_or_le 0 lf with c | c
          · exact c
          · exact absurd (decide_eq_true c) e
        refine ⟨_, rfl, _, rfl, _, rfl, _, rfl, _, rfl, _, _, rfl, rfl, ⟨(pick c0 c1 w).a, (pick c0 c1 w).b, (pick c0 c1 w).ps, (pick c0 c1 w).ts, (pick c0 c1 w).ms, u + (0 + i), rfl, pk.a, pk.b, pk.tp, hp.len0, _, _, rfl, rfl, ?_⟩⟩
        refine ⟨_, _, rfl, rfl, ?_, fun j h => ?_⟩
        · have := step i
          rw [show u + (0 + (i : Int)) = u + i by omega]
          omega
        · rcases Nat.lt_or_ge j i with c | c
          · exact hb j c
          · have : j = i := by omega
            subst this
            omega
    · rintro σ J ⟨lf, y6, rfl, rfl, hl, hb⟩
      -- so many moments are enough
      exfalso
      have nn := hb 1999 (by decide)
      have x0 : 0 ≤ left + 9 := by omega
      have tw := tally_weeks hp.len0 u (left + 9)
      have g := gain_lo hp (lo := u) (hi := u + (left + 9) * (pick c0 c1 w).ps.length) fit.val
      have s1 := sum_pos hp
      have q := Int.mul_le_mul_of_nonneg_left s1 x0
      rw [Int.mul_one] at q
      have ln := pk.len
      have l12 := hp.len1
      have bound : (left + 9) * ((pick c0 c1 w).ps.length : Int) ≤ 1999 := Int.le_trans (Int.mul_le_mul_of_nonneg_left (show ((pick c0 c1 w).ps.length : Int) ≤ 12 by omega) x0) (by omega)
      have b0 : 0 ≤ (left + 9) * ((pick c0 c1 w).ps.length : Int) := Int.mul_nonneg x0 (by omega)
      have wk : left ≤ workOf (pick c0 c1 w).ps (pick c0 c1 w).ms u (u + (left + 9) * (pick c0 c1 w).ps.length) := by
        unfold workOf
        rw [tw]
        omega
      have mono := work_mono2 hp fit (show u ≤ u + (left + 9) * (pick c0 c1 w).ps.length by omega) (show u + (left + 9) * ((pick c0 c1 w).ps.length : Int) ≤ u + (1999 : Nat) by omega)
      omega
end

theorem left_self {ps : List Int} {ms : List (Int × Int)} {am t : Int} {pa : Bool} (h : 0 < am) : lawLeft ps ms am t pa t = am := by
  unfold lawLeft
  cases pa with
  | true => rfl
  | false =>
    simp only [Bool.false_eq_true, if_false]
    rw [work_self, if_pos (by omega)]
    omega
/-- behind one of the calls -/
def Called (C T S : Addr) (H : Hp) (p : Addr) (n : Nat) (x z st sg x0 ll : Addr) (c0 c1 : CL) (a0 t0 : Int) (es : List Addr) (gs : List SD) (left t : Int) (J : Hp) : Prop :=
  ∃ (es' : List Addr) (gs' : List SD) (s' c' l' d' : Addr) (left' w' : Int) (pa' : Bool), Fol C T S J p (n + 10) x z st sg x0 ll c0 c1 a0 t0 es' gs' s' c' l' d' left' w' pa' left' t t ∧ 0 < left' ∧ left' ≤ left + 3 ∧ es'.length ≤ es.length + 1 ∧ gs'.length ≤ gs.length + 1 ∧ FrN [p, z, st, sg] H J
def spCallL (C T S : Addr) : Sp := fun vs H Q _ => ∃ (p : Addr) (n : Nat) (x z st sg x0 ll : Addr) (c0 c1 : CL) (a0 t0 : Int) (es : List Addr) (gs : List SD) (s c l d : Addr) (left w : Int) (pa : Bool) (am b t : Int), vs = [.ref p, .ref x, .ref z, .int t, .ref ll] ∧ Fol C T S H p n x z st sg x0 ll c0 c1 a0 t0 es gs s c l d left w pa am b t ∧
  0 < left ∧ n ≤ 10 ^ 7 ∧ es.length < 800 ∧ gs.length < 800 ∧ ∀ J, Called C T S H p n x z st sg x0 ll c0 c1 a0 t0 es gs left t J → Q .non J
section
variable {P : Program} {w : World} {K : PySem.W.Frag} {mg : Str → Option Value} {base : Heap}
theorem scCall : FnScope ["well", "ticket", "state", "spot", "lists", "way", "more", "paces", "marks"] ["well", "ticket", "state", "spot", "lists"] (defScope sCall) := ⟨rfl, rfl, rfl, by decide +kernel, rfl, by decide +kernel, by decide +kernel⟩
theorem ok_callL {f fT fI gPA gRE gEN gSW C TT S CM CW CA : Addr} {fd dT dI dPA dRE dEN dSW : FuncData} (F : Fun K "_law_call" "_law_call" sCall f fd) (T : Blt mg) (L : Tk P w K mg base fT dT) (Z : Cal K mg C) (Y : TkC K TT)
    (MK : Mk K C fI) (GI : FnOk P w K mg base CX0 3 fI dI ["self", "speeds", "changes"] (spInit C K)) (bI : Binds K dI ["self", "speeds", "changes"] [])
    (hPA : Meth K TT "pause" gPA) (GPA : FnOk P w K mg base CX0 5 gPA dPA ["self", "moment"] (calm (spTkPause C TT S CM CW))) (bPA : Binds K dPA ["self", "moment"] [])
    (hRE : Meth K TT "resume" gRE) (GRE : FnOk P w K mg base CX0 5 gRE dRE ["self", "moment"] (calm (spTkResume C TT S CM CW))) (bRE : Binds K dRE ["self", "moment"] [])
    (hEN : Meth K TT "enlarge" gEN) (GEN : FnOk P w K mg base CX0 5 gEN dEN ["self", "amount", "moment"] (calm (spTkEnlarge C TT S CM CW CA))) (bEN : Binds K dEN ["self", "amount", "moment"] [])
    (hSW : Meth K TT "switch" gSW) (GSW : FnOk P w K mg base CX0 5 gSW dSW ["self", "calendar", "moment"] (calm (spTkSwitch C TT S CM CW))) (bSW : Binds K dSW ["self", "calendar", "moment"] []) : FnOk P w K mg base CX0 6 f fd ["well", "ticket", "state", "spot", "lists"] (spCallL C TT S) := by
  refine F.ok scCall (fun vs H Q E h => ?_) (fun cdv A outer s H vs Q E hr h => ?_)
  · obtain ⟨p, n, x, z, st, sg, x0, ll, c0, c1, a0, t0, es, gs, s, c, l, d, left, w, pa, am, b, t, rfl, _⟩ := h
    rfl
  · obtain ⟨p, n, x, z, st, sg, x0, ll, c0, c1, a0, t0, es, gs, sS, c, l, d, left, w, pa, am, b, t, rfl, Fo, l0, hn, el, gl, k⟩ := h
    have hr1 : Room 1 _ := hr.mono (by decide)
    have hr4 : Room 4 _ := hr.mono (by decide)
    have hr5 : Room 5 _ := hr.mono (by decide)
    refine ⟨_, pss_cons (ps_set (i := 5) scCall.nd rfl (.inl rfl) (pe_call L.ok hr1 (by rfl) L.at_ L.kp L.bi .nil pass0 (pa_cons (pv 0) (pa_cons pe_int pa_nil))))
      (C8.pss_cut (ps_if (pt_cmpR op_eq (pv 5) pe_int (nomark _))
        (C8.pss_cut (ps_if (pt_val (pe_ix ix_list (pv 2) pe_int (fun _ _ => rfl)))
          (pss_one (ps_expr (pe_meth (pv 1) Y.cl hRE GRE hr5 bRE .nil pass0 (pa_cons (pv 3) pa_nil))))
          (pss_one (ps_expr (pe_meth (pv 1) Y.cl hPA GPA hr5 bPA .nil pass0 (pa_cons (pv 3) pa_nil)))))
        (pss_one (ps_asg (pe_not (pe_ix ix_list (pv 2) pe_int (fun _ _ => rfl))) (pg_sub (pv 2) pe_int set_list))))
        pss_nil)
      (C8.pss_cut (ps_if (pt_cmpR op_eq (pv 5) pe_int (nomark _))
        (pss_cons (ps_set (i := 6) scCall.nd rfl (.inl rfl) (pe_call L.ok hr1 (by rfl) L.at_ L.kp L.bi .nil pass0 (pa_cons (pv 0) (pa_cons pe_int pa_nil))))
        (pss_cons (ps_expr (pe_meth (pv 1) Y.cl hEN GEN hr5 bEN .nil pass0 (pa_cons (pv 6) (pa_cons (pv 3) pa_nil))))
        (pss_one (ps_asg (pe_op op_add (pe_ix ix_list (pv 2) pe_int (fun _ _ => rfl)) (pv 6)) (pg_sub (pv 2) pe_int set_list)))))
        pss_nil)
      (pss_one (ps_if (pt_cmpR op_eq (pv 5) pe_int (nomark _))
        (pss_cons (ps_asg (pe_op op_sub pe_int (pe_ix ix_list (pv 2) pe_int (fun _ _ => rfl))) (pg_sub (pv 2) pe_int set_list))
        (pss_cons (ps_asg (pe_ix ix_list (pv 4) (pe_ix ix_list (pv 2) pe_int (fun _ _ => rfl)) (fun _ _ => rfl)) (pg_lst rfl (pgs_cons (pg_name (i := 7) scCall.nd rfl (.inl rfl)) (pgs_cons (pg_name (i := 8) scCall.nd rfl (.inl rfl)) pgs_nil))))
        (pss_one (ps_expr (pe_meth (pv 1) Y.cl hSW GSW hr5 bSW .nil pass0 (pa_cons (pe_make MK GI hr4 (by rfl) Z.at_ bI .nil pass0 (pa_cons (pe_callTy call_list_of (by rfl) T.list (by decide +kernel) (pa_cons (pv 7) pa_nil)) (pa_cons (pe_callTy call_list_of (by rfl) T.list (by decide +kernel) (pa_cons (pv 8) pa_nil)) pa_nil))) (pa_cons (pv 3) pa_nil)))))))
        pss_nil)))), ?_⟩
    have di : ∀ {i j : Int} {c : Bool}, decide (V.int i = V.int j) = c → (c = true ↔ i = j) := fun {i j c} h => by
      rw [← h, decide_eq_true_iff]
      exact ⟨fun e => by injection e, fun e => by rw [e]⟩
    refine ⟨_, rfl, ⟨_, _, _, rfl, Fo.w_, by omega, by decide, by decide, fun way H1 y0 y1 f1 w1 => ?_⟩⟩
    have F1 := Fo.fr f1 w1
    have fr1 : FrN [p, z, st, sg] H H1 := FrN.fr f1 (by simp)
    have at_ : ∀ (left w : Int) (pa : Bool) (i : Nat) (v : V), ([V.int left, .bl pa, .int w])[i]? = some v → atI [V.int left, .bl pa, .int w] (i : Int) = some v := fun left w pa i v e => atI_nat (j := i) e
    obtain ⟨q1, d1, hx1, _⟩ := F1.tk.ob
    have nom : ∀ {m : Str}, ¬ m = "_most" → ¬ m = "_stages" → ¬ m = "_story" → ¬ m = "_asked" → (tickF q1 st sg .non).lookup m = none := fun h1 h2 h3 h4 => tickF_no q1 st sg .non h1 h2 h3 h4
    have lf := F1.left
    have gln : (gs ++ [(⟨sS, c, l, d, (pick c0 c1 w).ps, realOf (pick c0 c1 w).ps (pick c0 c1 w).ms, am, b, pa⟩ : SD)]).length ≤ gs.length + 1 := by rw [List.length_append]; exact Nat.le_refl _
    have eln : ∀ e : Addr, (es ++ [e]).length ≤ es.length + 1 := fun e => by rw [List.length_append]; exact Nat.le_refl _
    have nlx : ∀ (g : SD), g.l ≠ p → ∀ g' ∈ (gs ++ [(⟨sS, c, l, d, (pick c0 c1 w).ps, realOf (pick c0 c1 w).ps (pick c0 c1 w).ms, am, b, pa⟩ : SD)]) ++ [g], g'.l ≠ p := fun g hg g' h => by
      rcases List.mem_append.mp h with h | h
      · exact F1.nl g' h
      · obtain rfl := List.mem_singleton.mp h
        exact hg
    have lp : l ≠ p := F1.nl _ (List.mem_append_right _ List.mem_cons_self)
    refine ⟨fun σ J => σ = [some (.ref p), some (.ref x), some (.ref z), some (.int t), some (.ref ll), some (.int way), none, none, none] ∧ ((way = 0 ∧ Called C TT S H p n x z st sg x0 ll c0 c1 a0 t0 es gs left t J) ∨ (way ≠ 0 ∧ J = H1)), ?_, ?_⟩
    · refine ⟨_, rfl, rfl, _, rfl, ?_⟩
      cases h0 : decide (V.int way = V.int 0)
      · exact ⟨rfl, .inr ⟨fun e => (by have := (di h0).mpr e; cases this), rfl⟩⟩
      · have h0 := (di h0).mp rfl
        refine ⟨fun σ J => σ = [some (.ref p), some (.ref x), some (.ref z), some (.int t), some (.ref ll), some (.int way), none, none, none] ∧ ∃ (e s2 : Addr), TkAt C TT S J x st sg .non x0 a0 t0 (es ++ [e]) ((gs ++ [⟨sS, c, l, d, (pick c0 c1 w).ps, realOf (pick c0 c1 w).ps (pick c0 c1 w).ms, am, b, pa⟩]) ++ [⟨s2, c, l, d, (pick c0 c1 w).ps, realOf (pick c0 c1 w).ps (pick c0 c1 w).ms, left, t, !pa⟩]) ∧ Fr2 st sg H1 J, ?_, ?_⟩
        · refine ⟨_, rfl, z, _, 1, _, rfl, rfl, SqL.of F1.hz, at_ _ _ _ 1 _ rfl, _, rfl, ?_⟩
          cases pa with
          | true =>
            refine ⟨_, rfl, x, d1, _, rfl, hx1, nom (by decide +kernel) (by decide +kernel) (by decide +kernel) (by decide +kernel), _, rfl, resume_ok (E := E0) F1.tk (by omega) (by omega) F1.bt rfl fun J e s2 tk2 _ _ _ f2 => ?_⟩
            rw [lf] at tk2
            exact ⟨rfl, e, s2, tk2, f2⟩
          | false =>
            refine ⟨_, rfl, x, d1, _, rfl, hx1, nom (by decide +kernel) (by decide +kernel) (by decide +kernel) (by decide +kernel), _, rfl, pause_ok (E := E0) F1.tk (by omega) (by omega) F1.bt (by rw [lf]; omega) rfl fun J e s2 tk2 _ _ _ f2 => ?_⟩
            rw [lf] at tk2
            exact ⟨rfl, e, s2, tk2, f2⟩
        · rintro σ J ⟨rfl, e, s2, tk2, f2⟩
          have hzJ := f2 _ _ F1.hz F1.zt F1.zg
          refine ⟨_, rfl, z, _, 1, _, rfl, rfl, SqL.of hzJ, at_ _ _ _ 1 _ rfl, _, rfl, ?_⟩
          refine ⟨_, rfl, z, _, 1, 1, rfl, rfl, hzJ, rfl, ?_⟩
          refine ⟨rfl, .inl ⟨h0, es ++ [e], _, s2, c, l, d, left, w, !pa, ⟨?_, upd_same, ?_, tk2.putS hzJ, nlx _ lp, F1.w0, F1.w1, by omega, Int.le_refl _, left_self l0, F1.zp, F1.zt, F1.zg, by rw [upd_same]; simp⟩, l0, by omega, eln e, gln, ?_⟩⟩
          · have wJ := F1.w_.fr2 f2 F1.tk.sy F1.tk.refs
            exact (wJ.upd_ne F1.zp.symm).mono (by omega)
          · exact (F1.two.frn (FrN.fr2 f2 (by simp) (by simp))).frn (FrN.upd (by simp))
          · exact (fr1.trans (FrN.fr2 f2 (by simp) (by simp))).trans (FrN.upd (by simp))
    · rintro σ J ⟨rfl, hJ⟩
      refine ⟨fun σ J => ∃ y6 : Option V, σ = [some (.ref p), some (.ref x), some (.ref z), some (.int t), some (.ref ll), some (.int way), y6, none, none] ∧ ((way ≠ 2 ∧ Called C TT S H p n x z st sg x0 ll c0 c1 a0 t0 es gs left t J) ∨ (way = 2 ∧ J = H1)), ?_, ?_⟩
      · refine ⟨_, rfl, rfl, _, rfl, ?_⟩
        cases h1 : decide (V.int way = V.int 1)
        · have h1 : ¬ way = 1 := fun e => by have := (di h1).mpr e; cases this
          refine ⟨none, rfl, ?_⟩
          rcases hJ with ⟨h0, hc⟩ | ⟨h0, rfl⟩
          · exact .inl ⟨by omega, hc⟩
          · exact .inr ⟨by omega, rfl⟩
        · have h1 := (di h1).mp rfl
          rcases hJ with ⟨h0, _⟩ | ⟨_, rfl⟩
          · omega
          refine ⟨_, rfl, ⟨_, _, _, rfl, F1.w_, by omega, by decide, by decide, fun more H2 m0 m1 f2 w2 => ?_⟩⟩
          have F2 := F1.fr f2 w2
          obtain ⟨q2, d2, hx2, _⟩ := F2.tk.ob
          refine ⟨_, rfl, x, d2, _, rfl, hx2, tickF_no q2 st sg .non (by decide +kernel) (by decide +kernel) (by decide +kernel) (by decide +kernel), _, rfl, _, rfl, enlarge_ok (E := E0) F2.tk (by omega) (by omega) F2.bt m0 (by rw [F2.left]; omega) fun J e s2 tk2 _ _ _ f3 => ?_⟩
          rw [F2.left] at tk2
          have hzJ := f3 _ _ F2.hz F2.zt F2.zg
          refine ⟨_, rfl, z, _, 0, _, rfl, rfl, SqL.of hzJ, at_ _ _ _ 0 _ rfl, _, rfl, _, _, rfl, rfl, ?_⟩
          refine ⟨_, rfl, z, _, 0, 0, rfl, rfl, hzJ, rfl, ?_⟩
          refine ⟨_, rfl, .inl ⟨by omega, es ++ [e], _, s2, c, l, d, left + more, w, pa, ⟨?_, upd_same, ?_, tk2.putS hzJ, nlx _ lp, F1.w0, F1.w1, by omega, Int.le_refl _, left_self (by omega), F1.zp, F1.zt, F1.zg, by rw [upd_same]; simp⟩, by omega, by omega, eln e, gln, ?_⟩⟩
          · have wJ := F2.w_.fr2 f3 F2.tk.sy F2.tk.refs
            exact (wJ.upd_ne F1.zp.symm).mono (by omega)
          · exact (F2.two.frn (FrN.fr2 f3 (by simp) (by simp))).frn (FrN.upd (by simp))
          · exact ((fr1.trans (FrN.fr f2 (by simp))).trans (FrN.fr2 f3 (by simp) (by simp))).trans (FrN.upd (by simp))
      · rintro σ J ⟨y6, rfl, hJ⟩
        refine ⟨_, rfl, rfl, _, rfl, ?_⟩
        cases h2 : decide (V.int way = V.int 2)
        · have h2 : ¬ way = 2 := fun e => by have := (di h2).mpr e; cases this
          rcases hJ with ⟨_, hc⟩ | ⟨h3, _⟩
          · exact k J hc
          · omega
        · have h2 := (di h2).mp rfl
          rcases hJ with ⟨h3, _⟩ | ⟨_, rfl⟩
          · omega
          refine ⟨_, rfl, z, _, 2, _, rfl, rfl, SqL.of F1.hz, at_ _ _ _ 2 _ rfl, _, _, rfl, rfl, ?_⟩
          refine ⟨_, rfl, z, _, 2, 2, rfl, rfl, F1.hz, rfl, ?_⟩
          have w0' : 0 ≤ 1 - w := by have := F1.w1; omega
          have w1' : 1 - w ≤ 1 := by have := F1.w0; omega
          have hz3 := upd_same (H := J) (a := z) (o := .lst [.int left, .bl pa, .int (1 - w)])
          have two3 := F1.two.frn (FrN.upd (p := z) (o := .lst [.int left, .bl pa, .int (1 - w)]) (by simp))
          have tk3 := F1.tk.putS (o := .lst [.int left, .bl pa, .int (1 - w)]) F1.hz
          have w3 := F1.w_.upd_ne (o := .lst [.int left, .bl pa, .int (1 - w)]) F1.zp.symm
          have pk := two3.pick (1 - w)
          refine ⟨_, rfl, _, rfl, z, _, 2, _, rfl, rfl, SqL.of hz3, at_ _ _ _ 2 _ rfl, ll, _, _, _, rfl, rfl, SqL.of two3.at_, at_pick w0' w1', ?_⟩
          refine ⟨_, _, rfl, SqL.of pk.l, rfl, _, _, rfl, _, [], rfl, rfl, ?_⟩
          refine ⟨_, rfl, x, d1, _, rfl, by rw [upd_ne (fun e => by rw [e, F1.hz] at hx1; cases hx1)]; exact hx1, nom (by decide +kernel) (by decide +kernel) (by decide +kernel) (by decide +kernel), ?_⟩
          refine ⟨_, rfl, _, _, rfl, .inl (SqL.of pk.a), fun q4 nq4 => ?_⟩
          have s4 := same_new (o := .lst ((pick c0 c1 (1 - w)).ps.map V.int)) nq4
          refine ⟨_, rfl, _, _, rfl, .inl (SqL.of (s4 _ _ pk.b)), fun q5 nq5 => ?_⟩
          have s5 := s4.trans (same_new (o := .lst ((pick c0 c1 (1 - w)).ts.map V.ref)) nq5)
          have hq4 := (same_new (o := .lst ((pick c0 c1 (1 - w)).ts.map V.ref)) nq5) _ _ (upd_same (H := upd J z (.lst [.int left, .bl pa, .int (1 - w)])) (a := q4) (o := .lst ((pick c0 c1 (1 - w)).ps.map V.int)))
          refine fun y dy ny ndy _ => made_ok rfl ny ndy hq4 upd_same (pk.tp.same s5) pk.hp pk.fit fun H6 l6 d6 cal6 nl6 nd6 s6 => ⟨rfl, ?_⟩
          have s36 := s5.trans s6
          have lp6 : l6 ≠ p := ((w3.same s5).ne nl6).symm
          have lf3 : leftOf ⟨sS, c, l, d, (pick c0 c1 w).ps, realOf (pick c0 c1 w).ps (pick c0 c1 w).ms, am, b, pa⟩ t = left := lf
          have tk6 := tk3.same s36
          refine ⟨_, rfl, switch_ok (E := E0) tk6 (by omega) (by omega) cal6 pk.hp (realFit pk.fit) F1.bt (by rw [lf3]; omega) fun J7 e s2 tk7 _ _ _ f7 => ?_⟩
          rw [lf3] at tk7
          have hz6 := s36 _ _ hz3
          refine k J7 ⟨es ++ [e], _, s2, y, l6, d6, left, 1 - w, pa, ⟨?_, f7 _ _ hz6 F1.zt F1.zg, (two3.frn (FrN.of s36)).frn (FrN.fr2 f7 (by simp) (by simp)), tk7, nlx _ lp6, w0', w1', by omega, Int.le_refl _, left_self l0, F1.zp, F1.zt, F1.zg, by rw [f7 _ _ hz6 F1.zt F1.zg]; simp⟩, l0, by omega, eln e, gln, ?_⟩
          · exact ((w3.same s36).fr2 f7 tk6.sy tk6.refs).mono (by omega)
          · exact ((fr1.trans (FrN.upd (by simp))).trans (FrN.of s36)).trans (FrN.fr2 f7 (by simp) (by simp))
end

section
variable {P : Program} {w : World} {K : PySem.W.Frag} {mg : Str → Option Value} {base : Heap}
theorem scFits : FnScope ["well", "size", "twin", "lists", "at", "load", "ticket", "state", "ends", "step"] ["well"] (defScope sFits) := ⟨rfl, rfl, rfl, by decide +kernel, rfl, by decide +kernel, by decide +kernel⟩
theorem ok_fits {f fT fP fM fI fN fQ fC fE fJ C TT S gDA gLA p2 g2 : Addr} {fd dT dP dM dI dN dQ dC dE dJ dDA dLA d2 : FuncData} (F : Fun K "_law_fits" "_law_fits" sFits f fd) (T : Blt mg) (Z : Cal K mg C) (Y : TkC K TT) (L : Tk P w K mg base fT dT)
    (Pa : At P w K mg base 2 "_law_paces" ["well", "size"] spPaces fP dP) (Ma : At P w K mg base 3 "_law_marks" ["well", "size", "cap"] spMarks fM dM)
    (MK : Mk K C fI) (GI : FnOk P w K mg base CX0 3 fI dI ["self", "speeds", "changes"] (spInit C K)) (bI : Binds K dI ["self", "speeds", "changes"] [])
    (Ne : At P w K mg base 3 "_law_near" ["well", "marks", "back"] spNear fN dN) (Pc : At P w K mg base 1 "_law_pace" ["paces", "marks", "at"] spPace fQ dQ)
    (mT : mg "Ticket" = some (.ref TT)) (MT : Mk K TT fJ) (GT : FnOk P w K mg base CX0 4 fJ dJ ["self", "calendar", "amount", "moment"] (spTkI C TT S)) (bT : Binds K dJ ["self", "calendar", "amount", "moment"] [])
    (Y2 : Pp P w K mg base TT "left" (spTkLeft C TT S) p2 g2 d2)
    (hDA : Meth K TT "done_at" gDA) (GDA : FnOk P w K mg base CX0 4 gDA dDA ["self"] (spTkDone C TT S)) (bDA : Binds K dDA ["self"] [])
    (hLA : Meth K TT "left_at" gLA) (GLA : FnOk P w K mg base CX0 4 gLA dLA ["self", "moment"] (spTkLeftAtC C TT S)) (bLA : Binds K dLA ["self", "moment"] [])
    (Cl : At P w K mg base 6 "_law_call" ["well", "ticket", "state", "spot", "lists"] (spCallL C TT S) fC dC) (En : At P w K mg base 2 "_law_end" ["state", "spot", "lists"] spEndL fE dE) : FnG P w K mg base 7 f fd ["well"] spFits := by
  refine okG F scFits (fun vs H Q E h => ?_) (fun cdv A outer s H vs Q E hgd hr h => ?_)
  · obtain ⟨p, n, rfl, _⟩ := h
    rfl
  · obtain ⟨p, n, rfl, hW, hn, k⟩ := h
    have hu := hr.units
    have hr1 : Room 1 _ := hr.mono (by decide)
    have hr2 : Room 2 _ := hr.mono (by decide)
    have hr3 : Room 3 _ := hr.mono (by decide)
    have hr4 : Room 4 _ := hr.mono (by decide)
    have hr5 : Room 5 _ := hr.mono (by decide)
    have hr6 : Room 6 _ := hr.mono (by decide)
    refine ⟨_, pss_cons (ps_par (i := 1) (j := 2) rfl scFits.nd rfl rfl (by decide) rfl rfl (pa_cons (pe_op op_add pe_int (pe_call L.ok hr1 (by rfl) L.at_ L.kp L.bi .nil pass0 (pa_cons (pv 0) (pa_cons pe_int pa_nil)))) (pa_cons (pe_op op_add pe_int (pe_call L.ok hr1 (by rfl) L.at_ L.kp L.bi .nil pass0 (pa_cons (pv 0) (pa_cons pe_int pa_nil)))) pa_nil)) (by rfl))
      (pss_cons (ps_set (i := 3) scFits.nd rfl (.inl rfl) (pe_lst (pa_cons (pe_lst (pa_cons (pe_call Pa.ok hr2 (by rfl) Pa.at_ Pa.kp Pa.bi .nil pass0 (pa_cons (pv 0) (pa_cons (pv 1) pa_nil))) (pa_cons (pe_call Ma.ok hr3 (by rfl) Ma.at_ Ma.kp Ma.bi .nil pass0 (pa_cons (pv 0) (pa_cons (pv 1) (pa_cons pe_int pa_nil)))) pa_nil))) (pa_cons (pe_lst (pa_cons (pe_call Pa.ok hr2 (by rfl) Pa.at_ Pa.kp Pa.bi .nil pass0 (pa_cons (pv 0) (pa_cons (pv 2) pa_nil))) (pa_cons (pe_call Ma.ok hr3 (by rfl) Ma.at_ Ma.kp Ma.bi .nil pass0 (pa_cons (pv 0) (pa_cons (pv 2) (pa_cons pe_int pa_nil)))) pa_nil))) pa_nil))))
      (pss_cons (ps_par (i := 4) (j := 5) rfl scFits.nd rfl rfl (by decide) rfl rfl (pa_cons (pe_call Ne.ok hr3 (by rfl) Ne.at_ Ne.kp Ne.bi .nil pass0 (pa_cons (pv 0) (pa_cons (pe_ix ix_list (pe_ix ix_list (pv 3) pe_int (fun _ _ => rfl)) pe_int (fun _ _ => rfl)) (pa_cons pe_int pa_nil)))) (pa_cons (pe_call L.ok hr1 (by rfl) L.at_ L.kp L.bi .nil pass0 (pa_cons (pv 0) (pa_cons pe_int pa_nil))) pa_nil)) (by rfl))
      (pss_cons (ps_set (i := 6) scFits.nd rfl (.inl rfl) (pe_make MT GT hr5 (by rfl) mT bT .nil pass0 (pa_cons (pe_make MK GI hr4 (by rfl) Z.at_ bI .nil pass0 (pa_cons (pe_callTy call_list_of (by rfl) T.list (by decide +kernel) (pa_cons (pe_ix ix_list (pe_ix ix_list (pv 3) pe_int (fun _ _ => rfl)) pe_int (fun _ _ => rfl)) pa_nil)) (pa_cons (pe_callTy call_list_of (by rfl) T.list (by decide +kernel) (pa_cons (pe_ix ix_list (pe_ix ix_list (pv 3) pe_int (fun _ _ => rfl)) pe_int (fun _ _ => rfl)) pa_nil)) pa_nil))) (pa_cons (pv 5) (pa_cons (pv 4) pa_nil)))))
      (pss_cons (ps_par (i := 7) (j := 8) rfl scFits.nd rfl rfl (by decide) rfl rfl (pa_cons (pe_lst (pa_cons (pv 5) (pa_cons pe_bl (pa_cons pe_int pa_nil)))) (pa_cons (pv 4) pa_nil)) (by rfl))
      (pss_cons (ps_for PassesOwn.never rfl (pi_range1 (by rfl) T.range (pa_cons pe_int pa_nil)) (pg_name (i := 9) scFits.nd rfl (.inl rfl))
        (pss_cons (ps_if (pt_cmpR op_ne (pe_callB SkE.call_repr_int (by rfl) T.repr (by decide +kernel) (pa_cons (pe_meth (pv 6) Y.cl hLA GLA hr4 bLA .nil pass0 (pa_cons (pe_op op_add (pv 4) (pv 9)) pa_nil)) pa_nil)) (pe_callB SkE.call_repr_int (by rfl) T.repr (by decide +kernel) (pa_cons (pe_ix ix_list (pv 7) pe_int (fun _ _ => rfl)) pa_nil)) (nomark _))
          (pss_one (ps_ret pe_bl))
          pss_nil)
        (C8.pss_cut (ps_if (PW.pt (pw_and (pt_cmpR op_gt (pe_ix ix_list (pv 7) pe_int (fun _ _ => rfl)) pe_int (nomark _)) (pw_and1 (pt_cmpR op_eq (pe_call L.ok hr1 (by rfl) L.at_ L.kp L.bi .nil pass0 (pa_cons (pv 0) (pa_cons pe_int pa_nil))) pe_int (nomark _)))))
          (pss_cons (ps_expr (pe_call Cl.ok hr6 (by rfl) Cl.at_ Cl.kp Cl.bi .nil pass0 (pa_cons (pv 0) (pa_cons (pv 6) (pa_cons (pv 7) (pa_cons (pe_op op_add (pv 4) (pv 9)) (pa_cons (pv 3) pa_nil)))))))
          (pss_one (ps_if (pt_cmpR op_ne (pe_callB SkE.call_repr_int (by rfl) T.repr (by decide +kernel) (pa_cons (pe_prop (pv 6) Y.cl Y2.of Y2.ok hr2 Y2.bi .nil pass0 rfl) pa_nil)) (pe_callB SkE.call_repr_int (by rfl) T.repr (by decide +kernel) (pa_cons (pe_ix ix_list (pv 7) pe_int (fun _ _ => rfl)) pa_nil)) (nomark _))
            (pss_one (ps_ret pe_bl))
            pss_nil)))
          pss_nil)
        (pss_one (ps_if (PW.pt (pw_and (pt_cmpR op_gt (pe_ix ix_list (pv 7) pe_int (fun _ _ => rfl)) pe_int (nomark _)) (pw_and1 (pt_not (pt_val (pe_ix ix_list (pv 7) pe_int (fun _ _ => rfl)))))))
          (pss_cons (ps_asg (pe_callB (call_max2 rfl) (by rfl) T.max (by decide +kernel) (pa_cons pe_int (pa_cons (pe_op op_sub (pe_ix ix_list (pv 7) pe_int (fun _ _ => rfl)) (pe_call Pc.ok hr1 (by rfl) Pc.at_ Pc.kp Pc.bi .nil pass0 (pa_cons (pe_ix ix_list (pe_ix ix_list (pv 3) (pe_ix ix_list (pv 7) pe_int (fun _ _ => rfl)) (fun _ _ => rfl)) pe_int (fun _ _ => rfl)) (pa_cons (pe_ix ix_list (pe_ix ix_list (pv 3) (pe_ix ix_list (pv 7) pe_int (fun _ _ => rfl)) (fun _ _ => rfl)) pe_int (fun _ _ => rfl)) (pa_cons (pe_op op_add (pv 4) (pv 9)) pa_nil))))) pa_nil))) (pg_sub (pv 7) pe_int set_list))
          (pss_one (ps_set (i := 8) scFits.nd rfl (.inl rfl) (pe_op op_add (pe_op op_add (pv 4) (pv 9)) pe_int))))
          pss_nil)))))
      (pss_cons (ps_if (pt_val (pe_ix ix_list (pv 7) pe_int (fun _ _ => rfl)))
        (pss_one (ps_ret (pe_cmpR op_isN (pe_meth0 (pv 6) Y.cl hDA GDA hr4 bDA .nil pass0) pe_non (nomark _))))
        pss_nil)
      (pss_cons (ps_if (pt_cmpR op_eq (pe_ix ix_list (pv 7) pe_int (fun _ _ => rfl)) pe_int (nomark _))
        (pss_one (ps_ret (pe_cmpR op_eq (pe_callB SkE.call_repr_int (by rfl) T.repr (by decide +kernel) (pa_cons (pe_meth0 (pv 6) Y.cl hDA GDA hr4 bDA .nil pass0) pa_nil)) (pe_callB SkE.call_repr_int (by rfl) T.repr (by decide +kernel) (pa_cons (pv 8) pa_nil)) (nomark _))))
        pss_nil)
      (pss_one (ps_ret (pe_cmpR op_eq (pe_callB SkE.call_repr_int (by rfl) T.repr (by decide +kernel) (pa_cons (pe_meth0 (pv 6) Y.cl hDA GDA hr4 bDA .nil pass0) pa_nil)) (pe_callB SkE.call_repr_int (by rfl) T.repr (by decide +kernel) (pa_cons (pe_call En.ok hr2 (by rfl) En.at_ En.kp En.bi .nil pass0 (pa_cons (pv 7) (pa_cons (pe_op op_add (pv 4) pe_int) (pa_cons (pv 3) pa_nil)))) pa_nil)) (nomark _))))))))))), ?_⟩
    refine ⟨_, rfl, ⟨_, _, _, rfl, hW, (by omega), (by decide), (by decide), fun z H1 z0 z1 f1 w1 => ⟨_, _, rfl, rfl, ?_⟩⟩⟩
    refine ⟨_, rfl, ⟨_, _, _, rfl, w1, (by omega), (by decide), (by decide), fun y H2 y0 y1 f2 w2 => ⟨_, _, rfl, rfl, _, _, rfl, ?_⟩⟩⟩
    -- the two lists
    refine ⟨_, rfl, _, rfl, ⟨p, _, _, rfl, w2, by omega, by omega, by omega, fun aP ps H3 hp pl nP nPp h3 f3 w3 => ?_⟩⟩
    refine ⟨_, rfl, _, rfl, ⟨p, _, _, _, rfl, w3, by omega, by omega, by omega, by decide, by decide, fun aM ts ms H4 hm nM nMp h4 tp nts f4 w4 => ?_⟩⟩
    refine ⟨(by show 2 ≤ sizeLine; decide), fun l0 nl0 => ?_⟩
    have s5 := same_new (o := .lst [.ref aP, .ref aM]) nl0
    have w5 := w4.same s5
    have l0p : l0 ≠ p := (w4.ne nl0).symm
    refine ⟨_, rfl, _, rfl, ⟨p, _, _, rfl, w5, by omega, by omega, by omega, fun bP qs H6 hq ql mP mPp h6 f6 w6 => ?_⟩⟩
    refine ⟨_, rfl, _, rfl, ⟨p, _, _, _, rfl, w6, by omega, by omega, by omega, by decide, by decide, fun bM us ns H7 hn2 mM mMp h7 up nus f7 w7 => ?_⟩⟩
    refine ⟨(by show 2 ≤ sizeLine; decide), fun l1 nl1 => ⟨(by show 2 ≤ sizeLine; decide), fun ll nll => ?_⟩⟩
    have l1p : l1 ≠ p := (w7.ne nl1).symm
    have s8 := same_new (o := .lst [.ref bP, .ref bM]) nl1
    have s9 := same_new (o := .lst [.ref l0, .ref l1]) nll
    have llp : ll ≠ p := ((w7.same s8).ne nll).symm
    have s89 := s8.trans s9
    have w9 := (w7.same s8).same s9
    have e1 : (upd (upd H7 l1 (.lst [.ref bP, .ref bM])) ll (.lst [.ref l0, .ref l1])) l1 = some (.lst [.ref bP, .ref bM]) := s9 _ _ upd_same
    have e2 : (upd (upd H7 l1 (.lst [.ref bP, .ref bM])) ll (.lst [.ref l0, .ref l1])) ll = some (.lst [.ref l0, .ref l1]) := upd_same
    have f57 := f6.trans f7
    have eP := s89 _ _ (f57 _ _ (s5 _ _ (f4 _ _ h3 nPp)) nPp)
    have eM := s89 _ _ (f57 _ _ (s5 _ _ h4) nMp)
    have e0 := s89 _ _ (f57 _ _ (upd_same (H := H4) (a := l0) (o := .lst [.ref aP, .ref aM])) l0p)
    have etp := ((tp.same s5).fr w5 f57).same s89
    have eQ := s89 _ _ (f7 _ _ h6 mPp)
    have eN := s89 _ _ h7
    have eup := up.same s89
    have f09 : Fr p H (upd (upd H7 l1 (.lst [.ref bP, .ref bM])) ll (.lst [.ref l0, .ref l1])) := ((((((f1.trans f2).trans f3).trans f4).trans (Fr.of s5)).trans f57)).trans (Fr.of s89)
    generalize upd (upd H7 l1 (.lst [.ref bP, .ref bM])) ll (.lst [.ref l0, .ref l1]) = H9 at s9 s89 w9 e1 e2 eP eM e0 etp eQ eN eup f09 ⊢
    have ml0 := hm.len
    have nl0' := hn2.len
    have fit := hm.fit (by decide)
    have fit2 := hn2.fit (by decide)
    have big : ∀ m ∈ ms, -10 ^ 31 < m.1 ∧ m.1 < 10 ^ 31 := fun m h => by have := hm.big m h; omega
    -- at, load
    refine ⟨_, rfl, _, rfl, ll, _, _, _, rfl, rfl, SqL.of e2, atI_nat (j := 0) rfl, l0, _, _, _, rfl, rfl, SqL.of e0, atI_nat (j := 1) rfl, ⟨p, aM, _, ts, ms, 24, rfl, w9, by omega, eM, nMp, etp, big, by omega, by decide, by decide, fun t1 HA t10 t11 fA wA => ?_⟩⟩
    refine ⟨_, rfl, ⟨_, _, _, rfl, wA, (by omega), (by decide), (by decide), fun ld HB b0 b1 fB wB => ⟨_, _, rfl, ?_⟩⟩⟩
    have fAB := fA.trans fB
    have g2 := fAB _ _ e2 llp
    have g0 := fAB _ _ e0 l0p
    have g1 := fAB _ _ e1 l1p
    have gP := fAB _ _ eP nPp
    have gM := fAB _ _ eM nMp
    have gQ := fAB _ _ eQ mPp
    have gN := fAB _ _ eN mMp
    have gtp := etp.fr w9 fAB
    have gup := eup.fr w9 fAB
    have f0B := f09.trans fAB
    -- the ticket
    refine ⟨_, rfl, ll, _, _, _, rfl, rfl, SqL.of g2, atI_nat (j := 0) rfl, l0, _, _, _, rfl, rfl, SqL.of g0, atI_nat (j := 0) rfl, aP, _, rfl, .inl (SqL.of gP), fun q1 nq1 => ?_⟩
    have s1 := same_new (o := .lst (ps.map V.int)) nq1
    refine ⟨_, rfl, ll, _, _, _, rfl, rfl, SqL.of (s1 _ _ g2), atI_nat (j := 0) rfl, l0, _, _, _, rfl, rfl, SqL.of (s1 _ _ g0), atI_nat (j := 1) rfl, aM, _, rfl, .inl (SqL.of (s1 _ _ gM)), fun q2 nq2 => ?_⟩
    have s2 := s1.trans (same_new (o := .lst (ts.map V.ref)) nq2)
    have hq1 := (same_new (o := .lst (ts.map V.ref)) nq2) _ _ (upd_same (H := HB) (a := q1) (o := .lst (ps.map V.int)))
    refine fun x dx nx ndx _ => made_ok rfl nx ndx hq1 upd_same (gtp.same s2) hp fit fun HC l d cal nl nd s3 => ⟨rfl, ?_⟩
    have sC := s2.trans s3
    refine ⟨_, rfl, _, rfl, fun tk dtk ntk ndtk _ => tk_made rfl ntk ndtk cal hp (realFit fit) b0 fun HD st sg sA tkD nt ng sD => ⟨rfl, ?_⟩⟩
    have sCD := sC.trans sD
    have lp : l ≠ p := (wB.ne (s2.free nl)).symm
    have wD := wB.same sCD
    have f0D : Fr p H HD := f0B.trans (Fr.of sCD)
    have fresh : ∀ {a : Addr}, HC a = none → H a = none := fun {a} na => by
      cases e : H a with
      | none => rfl
      | some o =>
        by_cases zz : a = p
        · obtain ⟨_, _, _, hw, _⟩ := wB
          have := sC _ _ hw
          rw [← zz, na] at this
          cases this
        · have := (f0B.trans (Fr.of sC)) _ _ e zz
          rw [na] at this
          cases this
    have nt0 := fresh nt
    have ng0 := fresh ng
    -- the state
    refine ⟨_, rfl, (by show 3 ≤ sizeLine; decide), fun zS nzS => ⟨_, rfl, _, _, rfl, ?_⟩⟩
    have sE := same_new (o := .lst [.int ld, .bl false, .int 0]) nzS
    have nz0 : H zS = none := by
      cases e : H zS with
      | none => rfl
      | some o =>
        by_cases zz : zS = p
        · obtain ⟨_, _, _, hw, _⟩ := wD
          rw [← zz, nzS] at hw
          cases hw
        · have := f0D _ _ e zz
          rw [nzS] at this
          cases this
    have zt : zS ≠ st := fun e => by have := tkD.sy; rw [← e, nzS] at this; cases this
    have zg : zS ≠ sg := fun e => by have := tkD.sl; rw [← e, nzS] at this; cases this
    have zp : zS ≠ p := (wD.ne nzS).symm
    have out : ∀ {a : Addr} {o : HO}, HB a = some o → a ≠ p → a ∉ [p, zS, st, sg] := fun {a o} h1 h2 => by
      simp only [List.mem_cons, List.not_mem_nil, or_false, not_or]
      exact ⟨h2, ne_of_none (sCD _ _ h1) nzS, ne_of_none (sC _ _ h1) nt, ne_of_none (sC _ _ h1) ng⟩
    have sBE := sCD.trans sE
    have tupOut : ∀ {ts : List Addr} {ms : List (Int × Int)}, Tups HB ts ms → ∀ t ∈ ts, t ∉ [p, zS, st, sg] := fun {ts ms} tp t ht => by
      obtain ⟨i, hi, rfl⟩ := List.getElem_of_mem ht
      obtain ⟨m, _, h2⟩ := tp.get (List.getElem?_eq_getElem hi)
      refine out h2 fun e => ?_
      obtain ⟨_, _, _, hw, _⟩ := wB
      rw [e, hw] at h2
      cases h2
    have two : TwoAt [p, zS, st, sg] (upd HD zS (.lst [.int ld, .bl false, .int 0])) ll ⟨l0, aP, aM, ps, ts, ms⟩ ⟨l1, bP, bM, qs, us, ns⟩ :=
      ⟨sBE _ _ g2, out g2 llp, ⟨sBE _ _ g0, sBE _ _ gP, sBE _ _ gM, gtp.same sBE, hp, fit, by show ms.length ≤ 3; omega, out g0 l0p, out gP nPp, out gM nMp, tupOut gtp⟩, ⟨sBE _ _ g1, sBE _ _ gQ, sBE _ _ gN, gup.same sBE, hq, fit2, by show ns.length ≤ 3; omega, out g1 l1p, out gQ mPp, out gN mMp, tupOut gup⟩⟩
    have F0 : Fol C TT S (upd HD zS (.lst [.int ld, .bl false, .int 0])) p (n + 100) tk zS st sg x ll ⟨l0, aP, aM, ps, ts, ms⟩ ⟨l1, bP, bM, qs, us, ns⟩ ld t1 [] [] sA x l d ld 0 false ld t1 t1 := by
      refine ⟨(wD.same sE).mono (by omega), upd_same, two, tkD.same sE, fun g hg => (by obtain rfl := List.mem_singleton.mp hg; exact lp), by decide, by decide, b0, Int.le_refl _, ?_, zp, zt, zg, by rw [upd_same]; simp⟩
      rcases Int.lt_or_le 0 ld with c | c
      · exact left_self c
      · unfold lawLeft
        simp only [Bool.false_eq_true, if_false]
        rw [work_self, if_neg (by omega)]
        omega
    have fin : ∀ {J : Hp}, FrN [p, zS, st, sg] (upd HD zS (.lst [.int ld, .bl false, .int 0])) J → Fr p H J := fun {J} f c o h e => f c o (sE _ _ (f0D _ _ h e)) (by
      simp only [List.mem_cons, List.not_mem_nil, or_false, not_or]
      exact ⟨e, ne_of_none h nz0, ne_of_none h nt0, ne_of_none h ng0⟩)
    have ends0 : ld = 0 → IsEnd ps ms t1 ld t1 := fun e => ⟨Int.le_refl _, by rw [e, work_self]; exact Int.le_refl _, fun u h1 h2 => by omega⟩
    generalize hc0 : (⟨l0, aP, aM, ps, ts, ms⟩ : CL) = c0 at two F0
    generalize hc1 : (⟨l1, bP, bM, qs, us, ns⟩ : CL) = c1 at two F0
    have ends0' : ld = 0 → IsEnd (pick c0 c1 0).ps (pick c0 c1 0).ms t1 ld t1 := by
      rw [← hc0]
      exact ends0
    have at_ : ∀ (left w : Int) (pa : Bool) (i : Nat) (v : V), ([V.int left, .bl pa, .int w])[i]? = some v → atI [V.int left, .bl pa, .int w] (i : Int) = some v := fun left w pa i v e => atI_nat (j := i) e
    refine ⟨24, rfl, by decide, by decide, for_range (lo := 0) (n := 24) (fun i σ J => ∃ (y9 : Option V) (es : List Addr) (gs : List SD) (s' c' l' d' : Addr) (left w' : Int) (pa : Bool) (am b ends : Int), σ = [some (.ref p), some (.int (1 + z)), some (.int (1 + y)), some (.ref ll), some (.int t1), some (.int ld), some (.ref tk), some (.ref zS), some (.int ends), y9] ∧
      Fol C TT S J p (n + 100 + i * 30) tk zS st sg x ll c0 c1 ld t1 es gs s' c' l' d' left w' pa am b (t1 + i) ∧ left ≤ 30 + i * 3 ∧ 0 ≤ left ∧ (am ≤ 30 + i * 3 ∧ t1 ≤ b) ∧ es.length ≤ i ∧ gs.length ≤ i ∧ (left = 0 → IsEnd (pick c0 c1 w').ps (pick c0 c1 w').ms b am ends) ∧ t1 ≤ ends ∧ ends ≤ t1 + i ∧ FrN [p, zS, st, sg] (upd HD zS (.lst [.int ld, .bl false, .int 0])) J)
      ⟨none, [], [], sA, x, l, d, ld, 0, false, ld, t1, t1, rfl, by rw [show t1 + ((0 : Nat) : Int) = t1 by omega]; exact F0, by omega, b0, ⟨by omega, Int.le_refl _⟩, Nat.zero_le _, Nat.zero_le _, ends0', Int.le_refl _, by omega, FrN.of (Same.refl _)⟩ ?_ ?_⟩
    · rintro i σ J hi ⟨y9, es, gs, s', c', l', d', left, w', pa, am, b, ends, rfl, Fo, lb, lo, ⟨ab, tb⟩, el, gl, he, e0', e1', fJ⟩
      obtain ⟨qJ, dJ', hxJ, _⟩ := Fo.tk.ob
      refine ⟨_, rfl, tk, dJ', _, rfl, hxJ, tickF_no qJ st sg .non (by decide +kernel) (by decide +kernel) (by decide +kernel) (by decide +kernel), _, rfl, _, rfl, _, _, rfl, rfl, ⟨tk, st, sg, .non, x, ld, t1, es, gs, _, t1 + (0 + i), rfl, Fo.tk, (by show b ≤ t1 + (0 + (i : Int)); have := Fo.bt; omega), fun J1 j1 => ?_⟩⟩
      rw [show t1 + (0 + (i : Int)) = t1 + i by omega, Fo.left]
      have F1 := Fo.same j1
      refine ⟨_, rfl, rp_int_fits (by omega) (by omega), ?_⟩
      refine ⟨_, rfl, zS, _, 0, _, rfl, rfl, SqL.of F1.hz, at_ _ _ _ 0 _ rfl, _, rfl, rp_int_fits (by omega) (by omega), ?_⟩
      refine ⟨rfl, _, rfl, ?_⟩
      rw [ne_self]
      -- a call, perhaps
      refine ⟨fun σ J => ∃ (es : List Addr) (gs : List SD) (s' c' l' d' : Addr) (left w' : Int) (pa : Bool) (am b : Int), σ = [some (.ref p), some (.int (1 + z)), some (.int (1 + y)), some (.ref ll), some (.int t1), some (.int ld), some (.ref tk), some (.ref zS), some (.int ends), some (.int (0 + i))] ∧
        Fol C TT S J p (n + 100 + i * 30 + 20) tk zS st sg x ll c0 c1 ld t1 es gs s' c' l' d' left w' pa am b (t1 + i) ∧ left ≤ 30 + i * 3 + 3 ∧ 0 ≤ left ∧ (am ≤ 30 + i * 3 + 3 ∧ t1 ≤ b) ∧ es.length ≤ i + 1 ∧ gs.length ≤ i + 1 ∧ (left = 0 → IsEnd (pick c0 c1 w').ps (pick c0 c1 w').ms b am ends) ∧ FrN [p, zS, st, sg] (upd HD zS (.lst [.int ld, .bl false, .int 0])) J, ?_, ?_⟩
      · have stay : ∀ J2 m, FrN [p, zS, st, sg] (upd HD zS (.lst [.int ld, .bl false, .int 0])) J2 → m ≤ n + 100 + i * 30 + 20 → Fol C TT S J2 p m tk zS st sg x ll c0 c1 ld t1 es gs s' c' l' d' left w' pa am b (t1 + i) → ∃ (es : List Addr) (gs : List SD) (s' c' l' d' : Addr) (left w' : Int) (pa : Bool) (am b : Int), [some (V.ref p), some (.int (1 + z)), some (.int (1 + y)), some (.ref ll), some (.int t1), some (.int ld), some (.ref tk), some (.ref zS), some (.int ends), some (.int (0 + i))] = [some (.ref p), some (.int (1 + z)), some (.int (1 + y)), some (.ref ll), some (.int t1), some (.int ld), some (.ref tk), some (.ref zS), some (.int ends), some (.int (0 + i))] ∧
            Fol C TT S J2 p (n + 100 + i * 30 + 20) tk zS st sg x ll c0 c1 ld t1 es gs s' c' l' d' left w' pa am b (t1 + i) ∧ left ≤ 30 + i * 3 + 3 ∧ 0 ≤ left ∧ (am ≤ 30 + i * 3 + 3 ∧ t1 ≤ b) ∧ es.length ≤ i + 1 ∧ gs.length ≤ i + 1 ∧ (left = 0 → IsEnd (pick c0 c1 w').ps (pick c0 c1 w').ms b am ends) ∧ FrN [p, zS, st, sg] (upd HD zS (.lst [.int ld, .bl false, .int 0])) J2 := fun J2 m f2 hm F2 =>
          ⟨es, gs, s', c', l', d', left, w', pa, am, b, rfl, ⟨F2.w_.mono hm, F2.hz, F2.two, F2.tk, F2.nl, F2.w0, F2.w1, F2.am0, F2.bt, F2.lf, F2.zp, F2.zt, F2.zg, F2.zn⟩, by omega, lo, ⟨by omega, tb⟩, by omega, by omega, he, f2⟩
        have fJ1 := fJ.trans (FrN.of j1)
        refine ⟨_, rfl, zS, _, 0, _, rfl, rfl, SqL.of F1.hz, at_ _ _ _ 0 _ rfl, _, _, rfl, rfl, ?_⟩
        by_cases cc : left > 0
        · refine ⟨_, rfl, ?_⟩
          rw [decide_eq_true cc]
          refine ⟨_, rfl, ⟨_, _, _, rfl, F1.w_, by omega, by decide, by decide, fun v J2 v0 v1 f2 w2 => ?_⟩⟩
          have F2 := F1.fr f2 w2
          have fJ2 := fJ1.trans (FrN.fr f2 (by simp))
          refine ⟨rfl, _, rfl, ?_⟩
          cases hv : decide (V.int v = V.int 0)
          · exact stay J2 _ fJ2 (by omega) F2
          · refine ⟨_, rfl, _, rfl, _, rfl, _, rfl, _, rfl, _, _, rfl, rfl, _, rfl, ?_⟩
            have et : t1 + (0 + (i : Int)) = t1 + i := by omega
            refine ⟨p, _, tk, zS, st, sg, x, ll, c0, _, ld, t1, es, gs, s', c', l', d', left, w', pa, am, b, t1 + (0 + i), rfl, (by rw [et]; exact F2), cc, by omega, by omega, by omega, ?_⟩
            rintro J3 ⟨es3, gs3, s3', c3', l3', d3', left3, w3', pa3, F3, l30, l31, el3, gl3, f3⟩
            rw [et] at F3
            obtain ⟨q3, dd3, hx3, _⟩ := F3.tk.ob
            refine ⟨_, rfl, tk, dd3, _, rfl, hx3, ⟨tk, st, sg, .non, x, ld, t1, es3, gs3, _, rfl, F3.tk, ?_⟩⟩
            refine ⟨_, rfl, rp_int_fits (v := left3) (by omega) (by omega), ?_⟩
            refine ⟨_, rfl, zS, _, 0, _, rfl, rfl, SqL.of F3.hz, at_ _ _ _ 0 _ rfl, _, rfl, rp_int_fits (by omega) (by omega), ?_⟩
            refine ⟨rfl, _, rfl, ?_⟩
            rw [ne_self]
            exact ⟨es3, gs3, s3', c3', l3', d3', left3, w3', pa3, left3, t1 + i, rfl, ⟨F3.w_.mono (by omega), F3.hz, F3.two, F3.tk, F3.nl, F3.w0, F3.w1, F3.am0, F3.bt, F3.lf, F3.zp, F3.zt, F3.zg, F3.zn⟩, by omega, by omega, ⟨by omega, by omega⟩, by omega, by omega, fun e => by omega, fJ2.trans f3⟩
        · refine ⟨_, rfl, ?_⟩
          rw [decide_eq_false cc]
          exact stay J1 _ fJ1 (by omega) F1
      · rintro σ J2 ⟨es2, gs2, s2', c2', l2', d2', lf2, w2', pa2, am2, b2, rfl, F2, lb2, lo2, ⟨ab2, tb2⟩, el2, gl2, he2, fJ2⟩
        have pk := F2.two.pick w2'
        have bt2 := F2.bt
        have nxt : t1 + ((i + 1 : Nat) : Int) = t1 + i + 1 := by omega
        refine ⟨_, rfl, zS, _, 0, _, rfl, rfl, SqL.of F2.hz, at_ _ _ _ 0 _ rfl, _, _, rfl, rfl, ?_⟩
        by_cases cc : lf2 > 0
        · refine ⟨_, rfl, ?_⟩
          rw [decide_eq_true cc]
          refine ⟨_, rfl, zS, _, 1, _, rfl, rfl, SqL.of F2.hz, at_ _ _ _ 1 _ rfl, _, rfl, ?_⟩
          cases pa2 with
          | true =>
            refine ⟨_, es2, gs2, s2', c2', l2', d2', lf2, w2', true, am2, b2, ends, rfl, ⟨F2.w_.mono (by omega), F2.hz, F2.two, F2.tk, F2.nl, F2.w0, F2.w1, F2.am0, by omega, ?_, F2.zp, F2.zt, F2.zg, F2.zn⟩, by omega, by omega, ⟨by omega, tb2⟩, el2, gl2, he2, e0', by omega, fJ2⟩
            exact F2.lf
          | false =>
            have w20 := F2.w0
            have w21 := F2.w1
            refine ⟨_, rfl, zS, _, 0, _, rfl, rfl, SqL.of F2.hz, at_ _ _ _ 0 _ rfl, ?_⟩
            refine ⟨_, rfl, _, rfl, zS, _, 2, _, rfl, rfl, SqL.of F2.hz, at_ _ _ _ 2 _ rfl, ll, _, _, _, rfl, rfl, SqL.of F2.two.at_, at_pick w20 w21, _, _, _, _, rfl, rfl, SqL.of pk.l, atI_nat (j := 0) rfl, ?_⟩
            refine ⟨_, rfl, _, rfl, zS, _, 2, _, rfl, rfl, SqL.of F2.hz, at_ _ _ _ 2 _ rfl, ll, _, _, _, rfl, rfl, SqL.of F2.two.at_, at_pick w20 w21, _, _, _, _, rfl, rfl, SqL.of pk.l, atI_nat (j := 1) rfl, ?_⟩
            refine ⟨_, rfl, _, rfl, _, _, rfl, rfl, ⟨(pick c0 c1 w2').a, (pick c0 c1 w2').b, (pick c0 c1 w2').ps, (pick c0 c1 w2').ts, (pick c0 c1 w2').ms, t1 + (0 + i), rfl, pk.a, pk.b, pk.tp, pk.hp.len0, _, _, rfl, rfl, 0, _, rfl, ?_⟩⟩
            have et : t1 + (0 + (i : Int)) = t1 + i := by omega
            have ln := left_next pk.hp pk.fit bt2 (by rw [F2.lf]; omega)
            rw [F2.lf, ← et] at ln
            have sp := speed_lo pk.hp pk.fit (t1 + (0 + i))
            generalize hsp : speedAt (pick c0 c1 w2').ps (pick c0 c1 w2').ms (t1 + (0 + i)) = spd at ln sp ⊢
            have nlb : 0 ≤ (if lf2 - spd > 0 then lf2 - spd else 0) ∧ (if lf2 - spd > 0 then lf2 - spd else 0) ≤ lf2 := by
              split <;> omega
            refine ⟨_, rfl, zS, _, 0, 0, rfl, rfl, F2.hz, rfl, ?_⟩
            refine ⟨_, rfl, _, rfl, _, _, rfl, rfl, _, _, rfl, rfl, ?_⟩
            refine ⟨_, es2, gs2, s2', c2', l2', d2', (if lf2 - spd > 0 then lf2 - spd else 0), w2', false, am2, b2, t1 + (0 + i) + 1, rfl, ⟨(F2.w_.upd_ne F2.zp.symm).mono (by omega), upd_same, F2.two.frn (FrN.upd (by simp)), F2.tk.putS F2.hz, F2.nl, w20, w21, F2.am0, by omega, ?_, F2.zp, F2.zt, F2.zg, by rw [upd_same]; simp⟩, by omega, nlb.1, ⟨by omega, tb2⟩, el2, gl2, fun e => ?_, by omega, by omega, fJ2.trans (FrN.upd (by simp))⟩
            · rw [nxt, ← et]
              exact ln
            · have lf' := F2.lf
              rw [← et] at lf'
              exact end_here pk.hp pk.fit (by omega) (by rw [lf']; omega) (by rw [ln]; exact e)
        · have lz : lf2 = 0 := by omega
          refine ⟨_, rfl, ?_⟩
          rw [decide_eq_false cc]
          refine ⟨_, es2, gs2, s2', c2', l2', d2', lf2, w2', pa2, am2, b2, ends, rfl, ⟨F2.w_.mono (by omega), F2.hz, F2.two, F2.tk, F2.nl, F2.w0, F2.w1, F2.am0, by omega, ?_, F2.zp, F2.zt, F2.zg, F2.zn⟩, by omega, lo2, ⟨by omega, tb2⟩, el2, gl2, he2, e0', by omega, fJ2⟩
          cases pa2 with
          | true => exact F2.lf
          | false =>
            rw [nxt, lz]
            exact left_stay pk.hp pk.fit bt2 (by rw [F2.lf]; exact lz)
    · rintro σ J ⟨y9, es, gs, s', c', l', d', left, w', pa, am, b, ends, rfl, Fo, lb, lo, ⟨ab, tb⟩, el, gl, he, e0', e1', fJ⟩
      have pk := Fo.two.pick w'
      obtain ⟨qJ, dJ', hxJ, _⟩ := Fo.tk.ob
      have nom : ∀ {m : Str}, ¬ m = "_most" → ¬ m = "_stages" → ¬ m = "_story" → ¬ m = "_asked" → (tickF qJ st sg .non).lookup m = none := fun h1 h2 h3 h4 => tickF_no qJ st sg .non h1 h2 h3 h4
      refine ⟨_, rfl, zS, _, 1, _, rfl, rfl, SqL.of Fo.hz, at_ _ _ _ 1 _ rfl, _, rfl, ?_⟩
      cases pa with
      | true =>
        refine ⟨_, rfl, tk, dJ', _, rfl, hxJ, nom (by decide +kernel) (by decide +kernel) (by decide +kernel) (by decide +kernel), ⟨tk, st, sg, .non, x, ld, t1, es, gs, _, rfl, Fo.tk, Fo.am0, fun _ => ?_, fun g => (nomatch g)⟩⟩
        refine ⟨rfl, ?_⟩
        rw [decide_eq_true (rfl : V.non = V.non)]
        exact k J (fin fJ) (Fo.w_.mono (by omega))
      | false =>
        have hi : ∀ {r : Int}, IsEnd (pick c0 c1 w').ps (pick c0 c1 w').ms b am r → -10 ^ 40 < r ∧ r < 10 ^ 40 := fun {r} h => by
          have q := end_hi pk.hp pk.fit Fo.am0 h
          have l12 := pk.hp.len1
          have ln := pk.len
          have am0 := Fo.am0
          have h1 : (am + 3 * ((pick c0 c1 w').ms.length : Int) + 1) * (pick c0 c1 w').ps.length ≤ 1000 * 12 := Int.le_trans (Int.mul_le_mul_of_nonneg_right (show am + 3 * ((pick c0 c1 w').ms.length : Int) + 1 ≤ 1000 by omega) (by omega)) (Int.mul_le_mul_of_nonneg_left (by omega) (by decide))
          have := h.1
          have := Fo.bt
          omega
        have at0 := at_ left w' false
        refine ⟨_, rfl, zS, _, 0, _, rfl, rfl, SqL.of Fo.hz, at0 0 _ rfl, rfl, _, rfl, ?_⟩
        have di : ∀ {i j : Int} {c : Bool}, decide (V.int i = V.int j) = c → (c = true ↔ i = j) := fun {i j c} h => by
          rw [← h, decide_eq_true_iff]
          exact ⟨fun e => by injection e, fun e => by rw [e]⟩
        cases h0 : decide (V.int left = V.int 0)
        · have lp0 : 0 < left := by
            rcases Int.lt_or_le 0 left with c | c
            · exact c
            · have := (di h0).mpr (by omega)
              cases this
          refine ⟨_, rfl, tk, dJ', _, rfl, hxJ, nom (by decide +kernel) (by decide +kernel) (by decide +kernel) (by decide +kernel), ⟨tk, st, sg, .non, x, ld, t1, es, gs, _, rfl, Fo.tk, Fo.am0, fun g => (nomatch g), fun _ r J2 hr2 s2' => ?_⟩⟩
          have ie : IsEnd (pick c0 c1 w').ps (pick c0 c1 w').ms b am r := end_cong pk.hp.len0 (real_asc pk.fit.asc) pk.fit.asc (fun u => speed_real pk.fit.asc) hr2
          have hb := hi ie
          refine ⟨_, rfl, rp_int_fits hb.1 hb.2, ?_⟩
          have F2 := Fo.same s2'
          refine ⟨_, rfl, _, rfl, _, _, rfl, rfl, _, rfl, ⟨[p, zS, st, sg], zS, ll, c0, c1, left, w', t1 + 24, false, rfl, F2.hz, F2.two, F2.w0, F2.w1, lp0, by omega, fun r2 h2 => ?_⟩⟩
          have bt := Fo.bt
          have lat := end_later pk.hp pk.fit bt (by rw [Fo.lf]; exact lp0) ie
          rw [Fo.lf] at lat
          obtain rfl := h2.one lat
          refine ⟨_, rfl, rp_int_fits hb.1 hb.2, ?_⟩
          refine ⟨rfl, ?_⟩
          rw [decide_eq_true rfl]
          exact k J2 (fin (fJ.trans (FrN.of s2'))) (F2.w_.mono (by omega))
        · have lz := (di h0).mp rfl
          refine ⟨_, rfl, tk, dJ', _, rfl, hxJ, nom (by decide +kernel) (by decide +kernel) (by decide +kernel) (by decide +kernel), ⟨tk, st, sg, .non, x, ld, t1, es, gs, _, rfl, Fo.tk, Fo.am0, fun g => (nomatch g), fun _ r J2 hr2 s2' => ?_⟩⟩
          have ie : IsEnd (pick c0 c1 w').ps (pick c0 c1 w').ms b am r := end_cong pk.hp.len0 (real_asc pk.fit.asc) pk.fit.asc (fun u => speed_real pk.fit.asc) hr2
          have hb := hi ie
          obtain rfl := ie.one (he lz)
          refine ⟨_, rfl, rp_int_fits hb.1 hb.2, ?_⟩
          refine ⟨_, rfl, _, rfl, rp_int_fits hb.1 hb.2, ?_⟩
          refine ⟨rfl, ?_⟩
          rw [decide_eq_true rfl]
          exact k J2 (fin (fJ.trans (FrN.of s2'))) ((Fo.same s2').w_.mono (by omega))
end

theorem kit_eq {K : PySem.W.Frag} {D : Addr} : PySem.W.kitOne K (.ref D) (.ref D) = some true := if_pos (beq_self_eq_true _)
theorem kit_ne {K : PySem.W.Frag} {D C : Addr} (h : PySem.W.subIn K (.ref D) (.ref C) = some false) (hD : PySem.W.subIn K (.ref D) (.ref D) = some true) (hd : PySem.W.hasDictIn K C = true) (ht : PySem.W.typeIn K (.ref C) = some (.type "type")) : PySem.W.kitOne K (.ref D) (.ref C) = some false := by
  have ne : D ≠ C := fun e => by
    subst e
    rw [h] at hD
    cases hD
  have n2 : ¬ (Value.ref D == Value.ref C) = true := fun q => ne (Value.ref.inj (beq_iff_eq.mp q))
  obtain ⟨cd, hc, _⟩ := PySem.W.any_some hd
  have e2 : ((PySem.W.clsIn K C).isSome && PySem.W.typeIn K (.ref C) == some (.type "type")) = true := by rw [hc, ht] <;> rfl
  show (if (Value.ref D == Value.ref C) = true then some true else PySem.W.kitCls K (.ref D) (.ref C)) = some false
  rw [if_neg n2]
  show (if ((PySem.W.clsIn K C).isSome && PySem.W.typeIn K (.ref C) == some (.type "type")) = true then PySem.W.subIn K (.ref D) (.ref C) else none) = some false
  rw [if_pos e2]
  exact h
section
theorem all_mk {l : PySem.W.OpenLaw} {w : World} {K : PySem.W.Frag} {h : Heap} {mg : Str → Option Value} {fa C TT SS CD CA CM CW fE f0 f1 f2 f3 f4 f5 f6 f7 f8 f9 f10 f11 f12 f13 f14 f15 f16 f17 f18 f19 f20 f21 f22 f23 f24 f25 p25 f26 p26 f27 f28 f29 p29 f30 p30 f31 p31 f32 f33 f34 f35 f36 f37 f38 : Addr} (X : K.In h) (G : h.Ns mainGlobals mg) (hfa : mg "law" = some (.ref fa))
    {oc0 kV0 dc0 pm0 cd0 ct0 : Value} {od0 an0 : Option Addr} {sl0 : Array (Option Value)}
    {oc1 kV1 dc1 pm1 cd1 ct1 : Value} {od1 an1 : Option Addr} {sl1 : Array (Option Value)}
    {oc2 kV2 dc2 pm2 cd2 ct2 : Value} {od2 an2 : Option Addr} {sl2 : Array (Option Value)}
    {oc3 kV3 dc3 pm3 cd3 ct3 : Value} {od3 an3 : Option Addr} {sl3 : Array (Option Value)}
    {oc4 kV4 dc4 pm4 cd4 ct4 : Value} {od4 an4 : Option Addr} {sl4 : Array (Option Value)}
    {oc5 kV5 dc5 pm5 cd5 ct5 : Value} {od5 an5 : Option Addr} {sl5 : Array (Option Value)}
    {oc6 kV6 dc6 pm6 cd6 ct6 : Value} {od6 an6 : Option Addr} {sl6 : Array (Option Value)}
    {oc7 kV7 dc7 pm7 cd7 ct7 : Value} {od7 an7 : Option Addr} {sl7 : Array (Option Value)}
    {oc8 kV8 dc8 pm8 cd8 ct8 : Value} {od8 an8 : Option Addr} {sl8 : Array (Option Value)}
    {oc9 kV9 dc9 pm9 cd9 ct9 : Value} {od9 an9 : Option Addr} {sl9 : Array (Option Value)}
    {oc10 kV10 dc10 pm10 cd10 ct10 : Value} {od10 an10 : Option Addr} {sl10 : Array (Option Value)}
    {oc11 kV11 dc11 pm11 cd11 ct11 : Value} {od11 an11 : Option Addr} {sl11 : Array (Option Value)}
    {oc12 kV12 dc12 pm12 cd12 ct12 : Value} {od12 an12 : Option Addr} {sl12 : Array (Option Value)}
    {oc13 kV13 dc13 pm13 cd13 ct13 : Value} {od13 an13 : Option Addr} {sl13 : Array (Option Value)}
    {oc14 kV14 dc14 pm14 cd14 ct14 : Value} {od14 an14 : Option Addr} {sl14 : Array (Option Value)}
    {oc15 kV15 dc15 pm15 cd15 ct15 : Value} {od15 an15 : Option Addr} {sl15 : Array (Option Value)}
    {oc16 kV16 dc16 pm16 cd16 ct16 : Value} {od16 an16 : Option Addr} {sl16 : Array (Option Value)}
    {oc17 kV17 dc17 pm17 cd17 ct17 : Value} {od17 an17 : Option Addr} {sl17 : Array (Option Value)}
    {oc18 kV18 dc18 pm18 cd18 ct18 : Value} {od18 an18 : Option Addr} {sl18 : Array (Option Value)}
    {oc19 kV19 dc19 pm19 cd19 ct19 : Value} {od19 an19 : Option Addr} {sl19 : Array (Option Value)}
    {oc20 kV20 dc20 pm20 cd20 ct20 : Value} {od20 an20 : Option Addr} {sl20 : Array (Option Value)}
    {oc21 kV21 dc21 pm21 cd21 ct21 : Value} {od21 an21 : Option Addr} {sl21 : Array (Option Value)}
    {oc22 kV22 dc22 pm22 cd22 ct22 : Value} {od22 an22 : Option Addr} {sl22 : Array (Option Value)}
    {oc23 kV23 dc23 pm23 cd23 ct23 : Value} {od23 an23 : Option Addr} {sl23 : Array (Option Value)}
    {oc24 kV24 dc24 pm24 cd24 ct24 : Value} {od24 an24 : Option Addr} {sl24 : Array (Option Value)}
    {rs25 : List Value}
    {oc25 kV25 dc25 pm25 cd25 ct25 : Value} {od25 an25 : Option Addr} {sl25 : Array (Option Value)}
    {rs26 : List Value}
    {oc26 kV26 dc26 pm26 cd26 ct26 : Value} {od26 an26 : Option Addr} {sl26 : Array (Option Value)}
    {oc27 kV27 dc27 pm27 cd27 ct27 : Value} {od27 an27 : Option Addr} {sl27 : Array (Option Value)}
    {oc28 kV28 dc28 pm28 cd28 ct28 : Value} {od28 an28 : Option Addr} {sl28 : Array (Option Value)}
    {rs29 : List Value}
    {oc29 kV29 dc29 pm29 cd29 ct29 : Value} {od29 an29 : Option Addr} {sl29 : Array (Option Value)}
    {rs30 : List Value}
    {oc30 kV30 dc30 pm30 cd30 ct30 : Value} {od30 an30 : Option Addr} {sl30 : Array (Option Value)}
    {rs31 : List Value}
    {oc31 kV31 dc31 pm31 cd31 ct31 : Value} {od31 an31 : Option Addr} {sl31 : Array (Option Value)}
    {oc32 kV32 dc32 pm32 cd32 ct32 : Value} {od32 an32 : Option Addr} {sl32 : Array (Option Value)}
    {oc33 kV33 dc33 pm33 cd33 ct33 : Value} {od33 an33 : Option Addr} {sl33 : Array (Option Value)}
    {oc34 kV34 dc34 pm34 cd34 ct34 : Value} {od34 an34 : Option Addr} {sl34 : Array (Option Value)}
    {oc35 kV35 dc35 pm35 cd35 ct35 : Value} {od35 an35 : Option Addr} {sl35 : Array (Option Value)}
    {oc36 kV36 dc36 pm36 cd36 ct36 : Value} {od36 an36 : Option Addr} {sl36 : Array (Option Value)}
    {oc37 kV37 dc37 pm37 cd37 ct37 : Value} {od37 an37 : Option Addr} {sl37 : Array (Option Value)}
    {oc38 kV38 dc38 pm38 cd38 ct38 : Value} {od38 an38 : Option Addr} {sl38 : Array (Option Value)}
    {t_GREATEST_WEEK : Tok}
    {t_GREATEST_SPEED : Tok}
    {nm_CA q_CA : Str} {N_CA : Addr} {bs_CA : List Value} {sn_CA : List Str} {sub_CA : List Value} {ab_CA : Bool} {col_CA : Option Bool} {dd_CA : Option Addr} {m0_CA m1_CA m2_CA m3_CA m5_CA : Option Value}
    {nm_CM q_CM : Str} {N_CM : Addr} {bs_CM : List Value} {sn_CM : List Str} {sub_CM : List Value} {ab_CM : Bool} {col_CM : Option Bool} {dd_CM : Option Addr} {m0_CM m1_CM m2_CM m3_CM m5_CM : Option Value}
    {nm_CW q_CW : Str} {N_CW : Addr} {bs_CW : List Value} {sn_CW : List Str} {sub_CW : List Value} {ab_CW : Bool} {col_CW : Option Bool} {dd_CW : Option Addr} {m0_CW m1_CW m2_CW m3_CW m5_CW : Option Value}
    {ocE kVE dcE pmE cdE ctE : Value} {odE anE : Option Addr} {slE : Array (Option Value)}
    (aC : PySem.W.nsIn K mainGlobals "Calendar" = some (some (.ref C)))
    (aTT : PySem.W.nsIn K mainGlobals "Ticket" = some (some (.ref TT)))
    (aSS : PySem.W.nsIn K mainGlobals "Stage" = some (some (.ref SS)))
    (aCD : PySem.W.nsIn K mainGlobals "DueError" = some (some (.ref CD)))
    (aCA : PySem.W.nsIn K mainGlobals "InvalidAmount" = some (some (.ref CA)))
    (aCM : PySem.W.nsIn K mainGlobals "InvalidMoment" = some (some (.ref CM)))
    (aCW : PySem.W.nsIn K mainGlobals "WrongState" = some (some (.ref CW)))
    (iCA : PySem.W.findIn K (.ref CA) "__init__" = some (some (.ref fE)))
    (a0 : PySem.W.nsIn K mainGlobals "check_week" = some (some (.ref f0)))
    (l0 : K.lookup f0 = some ⟨oc0, od0, .func (PySem.W.fnOf "check_week" "check_week" (defArgs sChkWeek) (defBody sChkWeek) (defScope sChkWeek) .none kV0 dc0 pm0 an0 cd0 ct0), sl0⟩)
    (c0 : PySem.W.codeIn K cd0 "check_week" = true)
    (k0 : PySem.W.keepIn K (.ref f0) = true)
    (a1 : PySem.W.nsIn K mainGlobals "check_amount" = some (some (.ref f1)))
    (l1 : K.lookup f1 = some ⟨oc1, od1, .func (PySem.W.fnOf "check_amount" "check_amount" (defArgs sAmount) (defBody sAmount) (defScope sAmount) .none kV1 dc1 pm1 an1 cd1 ct1), sl1⟩)
    (c1 : PySem.W.codeIn K cd1 "check_amount" = true)
    (k1 : PySem.W.keepIn K (.ref f1) = true)
    (a2 : PySem.W.nsIn K mainGlobals "check_span" = some (some (.ref f2)))
    (l2 : K.lookup f2 = some ⟨oc2, od2, .func (PySem.W.fnOf "check_span" "check_span" (defArgs sSpan) (defBody sSpan) (defScope sSpan) .none kV2 dc2 pm2 an2 cd2 ct2), sl2⟩)
    (c2 : PySem.W.codeIn K cd2 "check_span" = true)
    (k2 : PySem.W.keepIn K (.ref f2) = true)
    (a3 : PySem.W.nsIn K mainGlobals "is_behind" = some (some (.ref f3)))
    (l3 : K.lookup f3 = some ⟨oc3, od3, .func (PySem.W.fnOf "is_behind" "is_behind" (defArgs sBehind) (defBody sBehind) (defScope sBehind) .none kV3 dc3 pm3 an3 cd3 ct3), sl3⟩)
    (c3 : PySem.W.codeIn K cd3 "is_behind" = true)
    (k3 : PySem.W.keepIn K (.ref f3) = true)
    (a4 : PySem.W.nsIn K mainGlobals "is_speed" = some (some (.ref f4)))
    (l4 : K.lookup f4 = some ⟨oc4, od4, .func (PySem.W.fnOf "is_speed" "is_speed" (defArgs sIsSpeed) (defBody sIsSpeed) (defScope sIsSpeed) .none kV4 dc4 pm4 an4 cd4 ct4), sl4⟩)
    (c4 : PySem.W.codeIn K cd4 "is_speed" = true)
    (k4 : PySem.W.keepIn K (.ref f4) = true)
    (a5 : PySem.W.nsIn K mainGlobals "check_speeds" = some (some (.ref f5)))
    (l5 : K.lookup f5 = some ⟨oc5, od5, .func (PySem.W.fnOf "check_speeds" "check_speeds" (defArgs sChkSpeeds) (defBody sChkSpeeds) (defScope sChkSpeeds) .none kV5 dc5 pm5 an5 cd5 ct5), sl5⟩)
    (c5 : PySem.W.codeIn K cd5 "check_speeds" = true)
    (k5 : PySem.W.keepIn K (.ref f5) = true)
    (a6 : PySem.W.nsIn K mainGlobals "check_changes" = some (some (.ref f6)))
    (l6 : K.lookup f6 = some ⟨oc6, od6, .func (PySem.W.fnOf "check_changes" "check_changes" (defArgs sChkChanges) (defBody sChkChanges) (defScope sChkChanges) .none kV6 dc6 pm6 an6 cd6 ct6), sl6⟩)
    (c6 : PySem.W.codeIn K cd6 "check_changes" = true)
    (k6 : PySem.W.keepIn K (.ref f6) = true)
    (a7 : PySem.W.nsIn K mainGlobals "weekly_tally" = some (some (.ref f7)))
    (l7 : K.lookup f7 = some ⟨oc7, od7, .func (PySem.W.fnOf "weekly_tally" "weekly_tally" (defArgs sTally) (defBody sTally) (defScope sTally) .none kV7 dc7 pm7 an7 cd7 ct7), sl7⟩)
    (c7 : PySem.W.codeIn K cd7 "weekly_tally" = true)
    (k7 : PySem.W.keepIn K (.ref f7) = true)
    (a8 : PySem.W.nsIn K mainGlobals "weekly_work" = some (some (.ref f8)))
    (l8 : K.lookup f8 = some ⟨oc8, od8, .func (PySem.W.fnOf "weekly_work" "weekly_work" (defArgs sWWork) (defBody sWWork) (defScope sWWork) .none kV8 dc8 pm8 an8 cd8 ct8), sl8⟩)
    (c8 : PySem.W.codeIn K cd8 "weekly_work" = true)
    (k8 : PySem.W.keepIn K (.ref f8) = true)
    (a9 : PySem.W.nsIn K mainGlobals "weekly_due" = some (some (.ref f9)))
    (l9 : K.lookup f9 = some ⟨oc9, od9, .func (PySem.W.fnOf "weekly_due" "weekly_due" (defArgs sWDue) (defBody sWDue) (defScope sWDue) .none kV9 dc9 pm9 an9 cd9 ct9), sl9⟩)
    (c9 : PySem.W.codeIn K cd9 "weekly_due" = true)
    (k9 : PySem.W.keepIn K (.ref f9) = true)
    (a10 : PySem.W.nsIn K mainGlobals "work" = some (some (.ref f10)))
    (l10 : K.lookup f10 = some ⟨oc10, od10, .func (PySem.W.fnOf "work" "work" (defArgs sWork) (defBody sWork) (defScope sWork) .none kV10 dc10 pm10 an10 cd10 ct10), sl10⟩)
    (c10 : PySem.W.codeIn K cd10 "work" = true)
    (k10 : PySem.W.keepIn K (.ref f10) = true)
    (a11 : PySem.W.nsIn K mainGlobals "due" = some (some (.ref f11)))
    (l11 : K.lookup f11 = some ⟨oc11, od11, .func (PySem.W.fnOf "due" "due" (defArgs sDue) (defBody sDue) (defScope sDue) .none kV11 dc11 pm11 an11 cd11 ct11), sl11⟩)
    (c11 : PySem.W.codeIn K cd11 "due" = true)
    (k11 : PySem.W.keepIn K (.ref f11) = true)
    (a12 : PySem.W.nsIn K mainGlobals "check_not_done" = some (some (.ref f12)))
    (l12 : K.lookup f12 = some ⟨oc12, od12, .func (PySem.W.fnOf "check_not_done" "check_not_done" (defArgs sNotDone) (defBody sNotDone) (defScope sNotDone) .none kV12 dc12 pm12 an12 cd12 ct12), sl12⟩)
    (c12 : PySem.W.codeIn K cd12 "check_not_done" = true)
    (k12 : PySem.W.keepIn K (.ref f12) = true)
    (a13 : PySem.W.nsIn K mainGlobals "_law_well" = some (some (.ref f13)))
    (l13 : K.lookup f13 = some ⟨oc13, od13, .func (PySem.W.fnOf "_law_well" "_law_well" (defArgs sWell) (defBody sWell) (defScope sWell) .none kV13 dc13 pm13 an13 cd13 ct13), sl13⟩)
    (c13 : PySem.W.codeIn K cd13 "_law_well" = true)
    (k13 : PySem.W.keepIn K (.ref f13) = true)
    (a14 : PySem.W.nsIn K mainGlobals "_law_take" = some (some (.ref f14)))
    (l14 : K.lookup f14 = some ⟨oc14, od14, .func (PySem.W.fnOf "_law_take" "_law_take" (defArgs sTake) (defBody sTake) (defScope sTake) .none kV14 dc14 pm14 an14 cd14 ct14), sl14⟩)
    (c14 : PySem.W.codeIn K cd14 "_law_take" = true)
    (k14 : PySem.W.keepIn K (.ref f14) = true)
    (a15 : PySem.W.nsIn K mainGlobals "_law_number" = some (some (.ref f15)))
    (l15 : K.lookup f15 = some ⟨oc15, od15, .func (PySem.W.fnOf "_law_number" "_law_number" (defArgs sNumber) (defBody sNumber) (defScope sNumber) .none kV15 dc15 pm15 an15 cd15 ct15), sl15⟩)
    (c15 : PySem.W.codeIn K cd15 "_law_number" = true)
    (k15 : PySem.W.keepIn K (.ref f15) = true)
    (a16 : PySem.W.nsIn K mainGlobals "_law_paces" = some (some (.ref f16)))
    (l16 : K.lookup f16 = some ⟨oc16, od16, .func (PySem.W.fnOf "_law_paces" "_law_paces" (defArgs sPaces) (defBody sPaces) (defScope sPaces) .none kV16 dc16 pm16 an16 cd16 ct16), sl16⟩)
    (c16 : PySem.W.codeIn K cd16 "_law_paces" = true)
    (k16 : PySem.W.keepIn K (.ref f16) = true)
    (a17 : PySem.W.nsIn K mainGlobals "_law_marks" = some (some (.ref f17)))
    (l17 : K.lookup f17 = some ⟨oc17, od17, .func (PySem.W.fnOf "_law_marks" "_law_marks" (defArgs sMarks) (defBody sMarks) (defScope sMarks) .none kV17 dc17 pm17 an17 cd17 ct17), sl17⟩)
    (c17 : PySem.W.codeIn K cd17 "_law_marks" = true)
    (k17 : PySem.W.keepIn K (.ref f17) = true)
    (a18 : PySem.W.nsIn K mainGlobals "_law_near" = some (some (.ref f18)))
    (l18 : K.lookup f18 = some ⟨oc18, od18, .func (PySem.W.fnOf "_law_near" "_law_near" (defArgs sNear) (defBody sNear) (defScope sNear) .none kV18 dc18 pm18 an18 cd18 ct18), sl18⟩)
    (c18 : PySem.W.codeIn K cd18 "_law_near" = true)
    (k18 : PySem.W.keepIn K (.ref f18) = true)
    (a19 : PySem.W.nsIn K mainGlobals "_law_pace" = some (some (.ref f19)))
    (l19 : K.lookup f19 = some ⟨oc19, od19, .func (PySem.W.fnOf "_law_pace" "_law_pace" (defArgs sPace) (defBody sPace) (defScope sPace) .none kV19 dc19 pm19 an19 cd19 ct19), sl19⟩)
    (c19 : PySem.W.codeIn K cd19 "_law_pace" = true)
    (k19 : PySem.W.keepIn K (.ref f19) = true)
    (a20 : PySem.W.nsIn K mainGlobals "_law_call" = some (some (.ref f20)))
    (l20 : K.lookup f20 = some ⟨oc20, od20, .func (PySem.W.fnOf "_law_call" "_law_call" (defArgs sCall) (defBody sCall) (defScope sCall) .none kV20 dc20 pm20 an20 cd20 ct20), sl20⟩)
    (c20 : PySem.W.codeIn K cd20 "_law_call" = true)
    (k20 : PySem.W.keepIn K (.ref f20) = true)
    (a21 : PySem.W.nsIn K mainGlobals "_law_end" = some (some (.ref f21)))
    (l21 : K.lookup f21 = some ⟨oc21, od21, .func (PySem.W.fnOf "_law_end" "_law_end" (defArgs sEnd) (defBody sEnd) (defScope sEnd) .none kV21 dc21 pm21 an21 cd21 ct21), sl21⟩)
    (c21 : PySem.W.codeIn K cd21 "_law_end" = true)
    (k21 : PySem.W.keepIn K (.ref f21) = true)
    (a22 : PySem.W.nsIn K mainGlobals "_law_fits" = some (some (.ref f22)))
    (l22 : K.lookup f22 = some ⟨oc22, od22, .func (PySem.W.fnOf "_law_fits" "_law_fits" (defArgs sFits) (defBody sFits) (defScope sFits) .none kV22 dc22 pm22 an22 cd22 ct22), sl22⟩)
    (c22 : PySem.W.codeIn K cd22 "_law_fits" = true)
    (k22 : PySem.W.keepIn K (.ref f22) = true)
    (a23 : PySem.W.nsIn K mainGlobals "law" = some (some (.ref f23)))
    (l23 : K.lookup f23 = some ⟨oc23, od23, .func (PySem.W.fnOf "law" "law" (defArgs sLaw) (defBody sLaw) (defScope sLaw) .none kV23 dc23 pm23 an23 cd23 ct23), sl23⟩)
    (c23 : PySem.W.codeIn K cd23 "law" = true)
    (k23 : PySem.W.keepIn K (.ref f23) = true)
    (a24 : PySem.W.findIn K (.ref C) "__init__" = some (some (.ref f24)))
    (i24 : PySem.W.isFn K (.ref f24) = true)
    (j24 : PySem.W.fnIn K f24 = true)
    (l24 : K.lookup f24 = some ⟨oc24, od24, .func (PySem.W.fnOf "__init__" "Calendar.__init__" (defArgs sInit) (defBody sInit) (defScope sInit) .none kV24 dc24 pm24 an24 cd24 ct24), sl24⟩)
    (c24 : PySem.W.codeIn K cd24 "Calendar.__init__" = true)
    (k24 : PySem.W.keepIn K (.ref f24) = true)
    (a25 : PySem.W.findIn K (.ref C) "speeds" = some (some (.ref p25)))
    (g25 : PySem.W.specialIn K (.ref p25) "__get__" = some (some (.builtin "property.__get__")))
    (t25 : PySem.W.takesIn K (.ref p25) = some true)
    (r25 : PySem.W.recIn K p25 "property" = some (.ref f25 :: rs25))
    (l25 : K.lookup f25 = some ⟨oc25, od25, .func (PySem.W.fnOf "speeds" "Calendar.speeds" (defArgs sSpeeds) (defBody sSpeeds) (defScope sSpeeds) .none kV25 dc25 pm25 an25 cd25 ct25), sl25⟩)
    (c25 : PySem.W.codeIn K cd25 "Calendar.speeds" = true)
    (k25 : PySem.W.keepIn K (.ref f25) = true)
    (a26 : PySem.W.findIn K (.ref C) "changes" = some (some (.ref p26)))
    (g26 : PySem.W.specialIn K (.ref p26) "__get__" = some (some (.builtin "property.__get__")))
    (t26 : PySem.W.takesIn K (.ref p26) = some true)
    (r26 : PySem.W.recIn K p26 "property" = some (.ref f26 :: rs26))
    (l26 : K.lookup f26 = some ⟨oc26, od26, .func (PySem.W.fnOf "changes" "Calendar.changes" (defArgs sChanges) (defBody sChanges) (defScope sChanges) .none kV26 dc26 pm26 an26 cd26 ct26), sl26⟩)
    (c26 : PySem.W.codeIn K cd26 "Calendar.changes" = true)
    (k26 : PySem.W.keepIn K (.ref f26) = true)
    (a27 : PySem.W.findIn K (.ref SS) "__init__" = some (some (.ref f27)))
    (i27 : PySem.W.isFn K (.ref f27) = true)
    (j27 : PySem.W.fnIn K f27 = true)
    (l27 : K.lookup f27 = some ⟨oc27, od27, .func (PySem.W.fnOf "__init__" "Stage.__init__" (defArgs sStageI) (defBody sStageI) (defScope sStageI) .none kV27 dc27 pm27 an27 cd27 ct27), sl27⟩)
    (c27 : PySem.W.codeIn K cd27 "Stage.__init__" = true)
    (k27 : PySem.W.keepIn K (.ref f27) = true)
    (a28 : PySem.W.findIn K (.ref TT) "__init__" = some (some (.ref f28)))
    (i28 : PySem.W.isFn K (.ref f28) = true)
    (j28 : PySem.W.fnIn K f28 = true)
    (l28 : K.lookup f28 = some ⟨oc28, od28, .func (PySem.W.fnOf "__init__" "Ticket.__init__" (defArgs sTkI) (defBody sTkI) (defScope sTkI) .none kV28 dc28 pm28 an28 cd28 ct28), sl28⟩)
    (c28 : PySem.W.codeIn K cd28 "Ticket.__init__" = true)
    (k28 : PySem.W.keepIn K (.ref f28) = true)
    (a29 : PySem.W.findIn K (.ref TT) "moment" = some (some (.ref p29)))
    (g29 : PySem.W.specialIn K (.ref p29) "__get__" = some (some (.builtin "property.__get__")))
    (t29 : PySem.W.takesIn K (.ref p29) = some true)
    (r29 : PySem.W.recIn K p29 "property" = some (.ref f29 :: rs29))
    (l29 : K.lookup f29 = some ⟨oc29, od29, .func (PySem.W.fnOf "moment" "Ticket.moment" (defArgs sTkMoment) (defBody sTkMoment) (defScope sTkMoment) .none kV29 dc29 pm29 an29 cd29 ct29), sl29⟩)
    (c29 : PySem.W.codeIn K cd29 "Ticket.moment" = true)
    (k29 : PySem.W.keepIn K (.ref f29) = true)
    (a30 : PySem.W.findIn K (.ref TT) "left" = some (some (.ref p30)))
    (g30 : PySem.W.specialIn K (.ref p30) "__get__" = some (some (.builtin "property.__get__")))
    (t30 : PySem.W.takesIn K (.ref p30) = some true)
    (r30 : PySem.W.recIn K p30 "property" = some (.ref f30 :: rs30))
    (l30 : K.lookup f30 = some ⟨oc30, od30, .func (PySem.W.fnOf "left" "Ticket.left" (defArgs sTkLeft) (defBody sTkLeft) (defScope sTkLeft) .none kV30 dc30 pm30 an30 cd30 ct30), sl30⟩)
    (c30 : PySem.W.codeIn K cd30 "Ticket.left" = true)
    (k30 : PySem.W.keepIn K (.ref f30) = true)
    (a31 : PySem.W.findIn K (.ref TT) "is_paused" = some (some (.ref p31)))
    (g31 : PySem.W.specialIn K (.ref p31) "__get__" = some (some (.builtin "property.__get__")))
    (t31 : PySem.W.takesIn K (.ref p31) = some true)
    (r31 : PySem.W.recIn K p31 "property" = some (.ref f31 :: rs31))
    (l31 : K.lookup f31 = some ⟨oc31, od31, .func (PySem.W.fnOf "is_paused" "Ticket.is_paused" (defArgs sTkPaused) (defBody sTkPaused) (defScope sTkPaused) .none kV31 dc31 pm31 an31 cd31 ct31), sl31⟩)
    (c31 : PySem.W.codeIn K cd31 "Ticket.is_paused" = true)
    (k31 : PySem.W.keepIn K (.ref f31) = true)
    (a32 : PySem.W.findIn K (.ref TT) "_go_on" = some (some (.ref f32)))
    (i32 : PySem.W.isFn K (.ref f32) = true)
    (j32 : PySem.W.fnIn K f32 = true)
    (l32 : K.lookup f32 = some ⟨oc32, od32, .func (PySem.W.fnOf "_go_on" "Ticket._go_on" (defArgs sTkGo) (defBody sTkGo) (defScope sTkGo) .none kV32 dc32 pm32 an32 cd32 ct32), sl32⟩)
    (c32 : PySem.W.codeIn K cd32 "Ticket._go_on" = true)
    (k32 : PySem.W.keepIn K (.ref f32) = true)
    (a33 : PySem.W.findIn K (.ref TT) "pause" = some (some (.ref f33)))
    (i33 : PySem.W.isFn K (.ref f33) = true)
    (j33 : PySem.W.fnIn K f33 = true)
    (l33 : K.lookup f33 = some ⟨oc33, od33, .func (PySem.W.fnOf "pause" "Ticket.pause" (defArgs sTkPause) (defBody sTkPause) (defScope sTkPause) .none kV33 dc33 pm33 an33 cd33 ct33), sl33⟩)
    (c33 : PySem.W.codeIn K cd33 "Ticket.pause" = true)
    (k33 : PySem.W.keepIn K (.ref f33) = true)
    (a34 : PySem.W.findIn K (.ref TT) "resume" = some (some (.ref f34)))
    (i34 : PySem.W.isFn K (.ref f34) = true)
    (j34 : PySem.W.fnIn K f34 = true)
    (l34 : K.lookup f34 = some ⟨oc34, od34, .func (PySem.W.fnOf "resume" "Ticket.resume" (defArgs sTkResume) (defBody sTkResume) (defScope sTkResume) .none kV34 dc34 pm34 an34 cd34 ct34), sl34⟩)
    (c34 : PySem.W.codeIn K cd34 "Ticket.resume" = true)
    (k34 : PySem.W.keepIn K (.ref f34) = true)
    (a35 : PySem.W.findIn K (.ref TT) "switch" = some (some (.ref f35)))
    (i35 : PySem.W.isFn K (.ref f35) = true)
    (j35 : PySem.W.fnIn K f35 = true)
    (l35 : K.lookup f35 = some ⟨oc35, od35, .func (PySem.W.fnOf "switch" "Ticket.switch" (defArgs sTkSwitch) (defBody sTkSwitch) (defScope sTkSwitch) .none kV35 dc35 pm35 an35 cd35 ct35), sl35⟩)
    (c35 : PySem.W.codeIn K cd35 "Ticket.switch" = true)
    (k35 : PySem.W.keepIn K (.ref f35) = true)
    (a36 : PySem.W.findIn K (.ref TT) "enlarge" = some (some (.ref f36)))
    (i36 : PySem.W.isFn K (.ref f36) = true)
    (j36 : PySem.W.fnIn K f36 = true)
    (l36 : K.lookup f36 = some ⟨oc36, od36, .func (PySem.W.fnOf "enlarge" "Ticket.enlarge" (defArgs sTkEnlarge) (defBody sTkEnlarge) (defScope sTkEnlarge) .none kV36 dc36 pm36 an36 cd36 ct36), sl36⟩)
    (c36 : PySem.W.codeIn K cd36 "Ticket.enlarge" = true)
    (k36 : PySem.W.keepIn K (.ref f36) = true)
    (a37 : PySem.W.findIn K (.ref TT) "left_at" = some (some (.ref f37)))
    (i37 : PySem.W.isFn K (.ref f37) = true)
    (j37 : PySem.W.fnIn K f37 = true)
    (l37 : K.lookup f37 = some ⟨oc37, od37, .func (PySem.W.fnOf "left_at" "Ticket.left_at" (defArgs sTkLeftAt) (defBody sTkLeftAt) (defScope sTkLeftAt) .none kV37 dc37 pm37 an37 cd37 ct37), sl37⟩)
    (c37 : PySem.W.codeIn K cd37 "Ticket.left_at" = true)
    (k37 : PySem.W.keepIn K (.ref f37) = true)
    (a38 : PySem.W.findIn K (.ref TT) "done_at" = some (some (.ref f38)))
    (i38 : PySem.W.isFn K (.ref f38) = true)
    (j38 : PySem.W.fnIn K f38 = true)
    (l38 : K.lookup f38 = some ⟨oc38, od38, .func (PySem.W.fnOf "done_at" "Ticket.done_at" (defArgs sTkDone) (defBody sTkDone) (defScope sTkDone) .none kV38 dc38 pm38 an38 cd38 ct38), sl38⟩)
    (c38 : PySem.W.codeIn K cd38 "Ticket.done_at" = true)
    (k38 : PySem.W.keepIn K (.ref f38) = true)
    (z_int : PySem.W.nsIn K mainGlobals "int" = some none)
    (z_len : PySem.W.nsIn K mainGlobals "len" = some none)
    (z_abs : PySem.W.nsIn K mainGlobals "abs" = some none)
    (z_max : PySem.W.nsIn K mainGlobals "max" = some none)
    (z_min : PySem.W.nsIn K mainGlobals "min" = some none)
    (z_range : PySem.W.nsIn K mainGlobals "range" = some none)
    (z_repr : PySem.W.nsIn K mainGlobals "repr" = some none)
    (z_list : PySem.W.nsIn K mainGlobals "list" = some none)
    (z_enumerate : PySem.W.nsIn K mainGlobals "enumerate" = some none)
    (z_sum : PySem.W.nsIn K mainGlobals "sum" = some none)
    (z_divmod : PySem.W.nsIn K mainGlobals "divmod" = some none)
    (z_sorted : PySem.W.nsIn K mainGlobals "sorted" = some none)
    (z_zip : PySem.W.nsIn K mainGlobals "zip" = some none)
    (z_set : PySem.W.nsIn K mainGlobals "set" = some none)
    (z_isinstance : PySem.W.nsIn K mainGlobals "isinstance" = some none)
    (z_bool : PySem.W.nsIn K mainGlobals "bool" = some none)
    (q_GREATEST_WEEK : PySem.W.nsIn K mainGlobals "GREATEST_WEEK" = some (some (.int 12 t_GREATEST_WEEK)))
    (q_GREATEST_SPEED : PySem.W.nsIn K mainGlobals "GREATEST_SPEED" = some (some (.int 3 t_GREATEST_SPEED)))
    (pgC : PySem.W.plainGet K C Str.empty = true)
    (hdC : PySem.W.hasDictIn K C = true)
    (poC : PySem.W.plainOver K C = true)
    (mkC : PySem.W.makesIn K C = true)
    (kcC : PySem.W.keepIn K (.ref C) = true)
    (saC : PySem.W.findIn K (.ref C) "__setattr__" = some (some (.builtin "object.__setattr__")))
    (nC_speeds : PySem.W.findIn K (.ref C) "_speeds" = some none)
    (nC_changes : PySem.W.findIn K (.ref C) "_changes" = some none)
    (pgTT : PySem.W.plainGet K TT Str.empty = true)
    (hdTT : PySem.W.hasDictIn K TT = true)
    (poTT : PySem.W.plainOver K TT = true)
    (mkTT : PySem.W.makesIn K TT = true)
    (kcTT : PySem.W.keepIn K (.ref TT) = true)
    (saTT : PySem.W.findIn K (.ref TT) "__setattr__" = some (some (.builtin "object.__setattr__")))
    (nTT_asked : PySem.W.findIn K (.ref TT) "_asked" = some none)
    (nTT_story : PySem.W.findIn K (.ref TT) "_story" = some none)
    (nTT_stages : PySem.W.findIn K (.ref TT) "_stages" = some none)
    (nTT_most : PySem.W.findIn K (.ref TT) "_most" = some none)
    (pgSS : PySem.W.plainGet K SS Str.empty = true)
    (hdSS : PySem.W.hasDictIn K SS = true)
    (poSS : PySem.W.plainOver K SS = true)
    (mkSS : PySem.W.makesIn K SS = true)
    (kcSS : PySem.W.keepIn K (.ref SS) = true)
    (saSS : PySem.W.findIn K (.ref SS) "__setattr__" = some (some (.builtin "object.__setattr__")))
    (nSScalendar : PySem.W.findIn K (.ref SS) "calendar" = some none)
    (nSSamount : PySem.W.findIn K (.ref SS) "amount" = some none)
    (nSSbegin : PySem.W.findIn K (.ref SS) "begin" = some none)
    (nSSstill : PySem.W.findIn K (.ref SS) "still" = some none)
    (tCD : PySem.W.typeIn K (.ref CD) = some (.type "type"))
    (dCD : PySem.W.hasDictIn K CD = true)
    (tCA : PySem.W.typeIn K (.ref CA) = some (.type "type"))
    (dCA : PySem.W.hasDictIn K CA = true)
    (tCM : PySem.W.typeIn K (.ref CM) = some (.type "type"))
    (dCM : PySem.W.hasDictIn K CM = true)
    (tCW : PySem.W.typeIn K (.ref CW) = some (.type "type"))
    (dCW : PySem.W.hasDictIn K CW = true)
    (bCD : PySem.W.subIn K (.ref CD) (.type "BaseException") = some true)
    (xCA : K.lookup CA = some (excClassObj nm_CA q_CA CA N_CA bs_CA [.ref CD, .type "ValueError", .type "Exception", .type "BaseException", .type "object"] true sn_CA sub_CA ab_CA col_CA dd_CA m0_CA m1_CA m2_CA m3_CA m5_CA "ValueError.__new__"))
    (sCA : PySem.W.findIn K (.ref CA) "__setattr__" = some (some (.builtin "object.__setattr__")))
    (bCA : PySem.W.subIn K (.ref CA) (.type "BaseException") = some true)
    (kCA : PySem.W.keepIn K (.ref CA) = true)
    (vCA : PySem.W.findIn K (.ref CA) "value" = some none)
    (gCA : PySem.W.findIn K (.ref CA) "__getattribute__" = some (some (.builtin "BaseException.__getattribute__")))
    (hCA : PySem.W.findIn K (.ref CA) "__getattr__" = some none)
    (lCA : PySem.W.findIn K (.ref CA) "__class__" = some (some (.builtin "object.__class__")))
    (mCA : PySem.W.mroIn K CA (.type "object") = some true)
    (uDCA : PySem.W.subIn K (.ref CA) (.ref CD) = some true)
    (uCACA : PySem.W.subIn K (.ref CA) (.ref CA) = some true)
    (uCACM : PySem.W.subIn K (.ref CA) (.ref CM) = some false)
    (uCACW : PySem.W.subIn K (.ref CA) (.ref CW) = some false)
    (xCM : K.lookup CM = some (excClassObj nm_CM q_CM CM N_CM bs_CM [.ref CD, .type "ValueError", .type "Exception", .type "BaseException", .type "object"] true sn_CM sub_CM ab_CM col_CM dd_CM m0_CM m1_CM m2_CM m3_CM m5_CM "ValueError.__new__"))
    (sCM : PySem.W.findIn K (.ref CM) "__setattr__" = some (some (.builtin "object.__setattr__")))
    (bCM : PySem.W.subIn K (.ref CM) (.type "BaseException") = some true)
    (kCM : PySem.W.keepIn K (.ref CM) = true)
    (vCM : PySem.W.findIn K (.ref CM) "value" = some none)
    (iCM : PySem.W.findIn K (.ref CM) "__init__" = some (some (.ref fE)))
    (gCM : PySem.W.findIn K (.ref CM) "__getattribute__" = some (some (.builtin "BaseException.__getattribute__")))
    (hCM : PySem.W.findIn K (.ref CM) "__getattr__" = some none)
    (lCM : PySem.W.findIn K (.ref CM) "__class__" = some (some (.builtin "object.__class__")))
    (mCM : PySem.W.mroIn K CM (.type "object") = some true)
    (uDCM : PySem.W.subIn K (.ref CM) (.ref CD) = some true)
    (uCMCA : PySem.W.subIn K (.ref CM) (.ref CA) = some false)
    (uCMCM : PySem.W.subIn K (.ref CM) (.ref CM) = some true)
    (uCMCW : PySem.W.subIn K (.ref CM) (.ref CW) = some false)
    (xCW : K.lookup CW = some (excClassObj nm_CW q_CW CW N_CW bs_CW [.ref CD, .type "ValueError", .type "Exception", .type "BaseException", .type "object"] true sn_CW sub_CW ab_CW col_CW dd_CW m0_CW m1_CW m2_CW m3_CW m5_CW "ValueError.__new__"))
    (sCW : PySem.W.findIn K (.ref CW) "__setattr__" = some (some (.builtin "object.__setattr__")))
    (bCW : PySem.W.subIn K (.ref CW) (.type "BaseException") = some true)
    (kCW : PySem.W.keepIn K (.ref CW) = true)
    (vCW : PySem.W.findIn K (.ref CW) "value" = some none)
    (iCW : PySem.W.findIn K (.ref CW) "__init__" = some (some (.ref fE)))
    (gCW : PySem.W.findIn K (.ref CW) "__getattribute__" = some (some (.builtin "BaseException.__getattribute__")))
    (hCW : PySem.W.findIn K (.ref CW) "__getattr__" = some none)
    (lCW : PySem.W.findIn K (.ref CW) "__class__" = some (some (.builtin "object.__class__")))
    (mCW : PySem.W.mroIn K CW (.type "object") = some true)
    (uDCW : PySem.W.subIn K (.ref CW) (.ref CD) = some true)
    (uCWCA : PySem.W.subIn K (.ref CW) (.ref CA) = some false)
    (uCWCM : PySem.W.subIn K (.ref CW) (.ref CM) = some false)
    (uCWCW : PySem.W.subIn K (.ref CW) (.ref CW) = some true)
    (icN : PySem.W.specialIn K (.builtin "object.__class__") "__get__" = some (some (.builtin "getset_descriptor.__get__")))
    (icT : PySem.W.takesIn K (.builtin "object.__class__") = some true)
    (lE : K.lookup fE = some ⟨ocE, odE, .func (PySem.W.fnOf "__init__" "DueError.__init__" (defArgs sErr) (defBody sErr) (defScope sErr) .none kVE dcE pmE anE cdE ctE), slE⟩)
    (cE : PySem.W.codeIn K cdE "DueError.__init__" = true)
    (kE : PySem.W.keepIn K (.ref fE) = true)
    (tE : PySem.W.typeIn K (.ref fE) = some (.type "function")) :
    ∃ fd : FuncData, (∀ (s : Shared) (v : Value), BindsTo s fd ⟨[v], []⟩ [("script", v)]) ∧ ∀ base : Heap, K.In base → base.Ns mainGlobals mg → FnG l.prog w K mg base 8 fa fd ["script"] (spLaw K) := by
  have e := hfa.symm.trans (PySem.W.mg_of X G a23)
  cases e
  have F_sChkWeek := fun_mk (st := sChkWeek) l0 c0 k0
  have b_sChkWeek := F_sChkWeek.binds (ps := ["number"]) fun _ _ _ _ _ _ us hl => match us, hl with | [_], _ => rfl
  have m_sChkWeek := PySem.W.mg_of X G a0
  have k_sChkWeek := k0
  have F_sAmount := fun_mk (st := sAmount) l1 c1 k1
  have b_sAmount := F_sAmount.binds (ps := ["amount"]) fun _ _ _ _ _ _ us hl => match us, hl with | [_], _ => rfl
  have m_sAmount := PySem.W.mg_of X G a1
  have k_sAmount := k1
  have F_sSpan := fun_mk (st := sSpan) l2 c2 k2
  have b_sSpan := F_sSpan.binds (ps := ["begin", "end"]) fun _ _ _ _ _ _ us hl => match us, hl with | [_, _], _ => rfl
  have m_sSpan := PySem.W.mg_of X G a2
  have k_sSpan := k2
  have F_sBehind := fun_mk (st := sBehind) l3 c3 k3
  have b_sBehind := F_sBehind.binds (ps := ["changes", "index"]) fun _ _ _ _ _ _ us hl => match us, hl with | [_, _], _ => rfl
  have m_sBehind := PySem.W.mg_of X G a3
  have k_sBehind := k3
  have F_sIsSpeed := fun_mk (st := sIsSpeed) l4 c4 k4
  have b_sIsSpeed := F_sIsSpeed.binds (ps := ["number"]) fun _ _ _ _ _ _ us hl => match us, hl with | [_], _ => rfl
  have m_sIsSpeed := PySem.W.mg_of X G a4
  have k_sIsSpeed := k4
  have F_sChkSpeeds := fun_mk (st := sChkSpeeds) l5 c5 k5
  have b_sChkSpeeds := F_sChkSpeeds.binds (ps := ["speeds"]) fun _ _ _ _ _ _ us hl => match us, hl with | [_], _ => rfl
  have m_sChkSpeeds := PySem.W.mg_of X G a5
  have k_sChkSpeeds := k5
  have F_sChkChanges := fun_mk (st := sChkChanges) l6 c6 k6
  have b_sChkChanges := F_sChkChanges.binds (ps := ["changes"]) fun _ _ _ _ _ _ us hl => match us, hl with | [_], _ => rfl
  have m_sChkChanges := PySem.W.mg_of X G a6
  have k_sChkChanges := k6
  have F_sTally := fun_mk (st := sTally) l7 c7 k7
  have b_sTally := F_sTally.binds (ps := ["speeds", "moment"]) fun _ _ _ _ _ _ us hl => match us, hl with | [_, _], _ => rfl
  have m_sTally := PySem.W.mg_of X G a7
  have k_sTally := k7
  have F_sWWork := fun_mk (st := sWWork) l8 c8 k8
  have b_sWWork := F_sWWork.binds (ps := ["speeds", "begin", "end"]) fun _ _ _ _ _ _ us hl => match us, hl with | [_, _, _], _ => rfl
  have m_sWWork := PySem.W.mg_of X G a8
  have k_sWWork := k8
  have F_sWDue := fun_mk (st := sWDue) l9 c9 k9
  have b_sWDue := F_sWDue.binds (ps := ["speeds", "begin", "left"]) fun _ _ _ _ _ _ us hl => match us, hl with | [_, _, _], _ => rfl
  have m_sWDue := PySem.W.mg_of X G a9
  have k_sWDue := k9
  have F_sWork := fun_mk (st := sWork) l10 c10 k10
  have b_sWork := F_sWork.binds (ps := ["calendar", "begin", "end"]) fun _ _ _ _ _ _ us hl => match us, hl with | [_, _, _], _ => rfl
  have m_sWork := PySem.W.mg_of X G a10
  have k_sWork := k10
  have F_sDue := fun_mk (st := sDue) l11 c11 k11
  have b_sDue := F_sDue.binds (ps := ["calendar", "moment", "amount"]) fun _ _ _ _ _ _ us hl => match us, hl with | [_, _, _], _ => rfl
  have m_sDue := PySem.W.mg_of X G a11
  have k_sDue := k11
  have F_sNotDone := fun_mk (st := sNotDone) l12 c12 k12
  have b_sNotDone := F_sNotDone.binds (ps := ["left", "moment"]) fun _ _ _ _ _ _ us hl => match us, hl with | [_, _], _ => rfl
  have m_sNotDone := PySem.W.mg_of X G a12
  have k_sNotDone := k12
  have F_sWell := fun_mk (st := sWell) l13 c13 k13
  have b_sWell := F_sWell.binds (ps := ["script", "place"]) fun _ _ _ _ _ _ us hl => match us, hl with | [_, _], _ => rfl
  have m_sWell := PySem.W.mg_of X G a13
  have k_sWell := k13
  have F_sTake := fun_mk (st := sTake) l14 c14 k14
  have b_sTake := F_sTake.binds (ps := ["well", "many"]) fun _ _ _ _ _ _ us hl => match us, hl with | [_, _], _ => rfl
  have m_sTake := PySem.W.mg_of X G a14
  have k_sTake := k14
  have F_sNumber := fun_mk (st := sNumber) l15 c15 k15
  have b_sNumber := F_sNumber.binds (ps := ["well"]) fun _ _ _ _ _ _ us hl => match us, hl with | [_], _ => rfl
  have m_sNumber := PySem.W.mg_of X G a15
  have k_sNumber := k15
  have F_sPaces := fun_mk (st := sPaces) l16 c16 k16
  have b_sPaces := F_sPaces.binds (ps := ["well", "size"]) fun _ _ _ _ _ _ us hl => match us, hl with | [_, _], _ => rfl
  have m_sPaces := PySem.W.mg_of X G a16
  have k_sPaces := k16
  have F_sMarks := fun_mk (st := sMarks) l17 c17 k17
  have b_sMarks := F_sMarks.binds (ps := ["well", "size", "cap"]) fun _ _ _ _ _ _ us hl => match us, hl with | [_, _, _], _ => rfl
  have m_sMarks := PySem.W.mg_of X G a17
  have k_sMarks := k17
  have F_sNear := fun_mk (st := sNear) l18 c18 k18
  have b_sNear := F_sNear.binds (ps := ["well", "marks", "back"]) fun _ _ _ _ _ _ us hl => match us, hl with | [_, _, _], _ => rfl
  have m_sNear := PySem.W.mg_of X G a18
  have k_sNear := k18
  have F_sPace := fun_mk (st := sPace) l19 c19 k19
  have b_sPace := F_sPace.binds (ps := ["paces", "marks", "at"]) fun _ _ _ _ _ _ us hl => match us, hl with | [_, _, _], _ => rfl
  have m_sPace := PySem.W.mg_of X G a19
  have k_sPace := k19
  have F_sCall := fun_mk (st := sCall) l20 c20 k20
  have b_sCall := F_sCall.binds (ps := ["well", "ticket", "state", "spot", "lists"]) fun _ _ _ _ _ _ us hl => match us, hl with | [_, _, _, _, _], _ => rfl
  have m_sCall := PySem.W.mg_of X G a20
  have k_sCall := k20
  have F_sEnd := fun_mk (st := sEnd) l21 c21 k21
  have b_sEnd := F_sEnd.binds (ps := ["state", "spot", "lists"]) fun _ _ _ _ _ _ us hl => match us, hl with | [_, _, _], _ => rfl
  have m_sEnd := PySem.W.mg_of X G a21
  have k_sEnd := k21
  have F_sFits := fun_mk (st := sFits) l22 c22 k22
  have b_sFits := F_sFits.binds (ps := ["well"]) fun _ _ _ _ _ _ us hl => match us, hl with | [_], _ => rfl
  have m_sFits := PySem.W.mg_of X G a22
  have k_sFits := k22
  have F_sLaw := fun_mk (st := sLaw) l23 c23 k23
  have b_sLaw := F_sLaw.binds (ps := ["script"]) fun _ _ _ _ _ _ us hl => match us, hl with | [_], _ => rfl
  have m_sLaw := PySem.W.mg_of X G a23
  have k_sLaw := k23
  have o_sInit : Own K C "__init__" f24 := ⟨a24, i24, j24⟩
  have F_sInit := fun_mk (st := sInit) l24 c24 k24
  have b_sInit := F_sInit.binds (ps := ["self", "speeds", "changes"]) fun _ _ _ _ _ _ us hl => match us, hl with | [_, _, _], _ => rfl
  have h_sInit : Meth K C "__init__" f24 := ⟨a24, i24, k24⟩
  have MKC : Mk K C f24 := ⟨mkC, a24, i24, kcC⟩
  have F_sSpeeds := fun_mk (st := sSpeeds) l25 c25 k25
  have b_sSpeeds := F_sSpeeds.binds (ps := ["self"]) fun _ _ _ _ _ _ us hl => match us, hl with | [_], _ => rfl
  have P_sSpeeds : PropOf K C "speeds" p25 f25 := ⟨a25, g25, t25, _, r25⟩
  have F_sChanges := fun_mk (st := sChanges) l26 c26 k26
  have b_sChanges := F_sChanges.binds (ps := ["self"]) fun _ _ _ _ _ _ us hl => match us, hl with | [_], _ => rfl
  have P_sChanges : PropOf K C "changes" p26 f26 := ⟨a26, g26, t26, _, r26⟩
  have o_sStageI : Own K SS "__init__" f27 := ⟨a27, i27, j27⟩
  have F_sStageI := fun_mk (st := sStageI) l27 c27 k27
  have b_sStageI := F_sStageI.binds (ps := ["self", "calendar", "amount", "begin", "still"]) fun _ _ _ _ _ _ us hl => match us, hl with | [_, _, _, _, _], _ => rfl
  have h_sStageI : Meth K SS "__init__" f27 := ⟨a27, i27, k27⟩
  have MKSS : Mk K SS f27 := ⟨mkSS, a27, i27, kcSS⟩
  have o_sTkI : Own K TT "__init__" f28 := ⟨a28, i28, j28⟩
  have F_sTkI := fun_mk (st := sTkI) l28 c28 k28
  have b_sTkI := F_sTkI.binds (ps := ["self", "calendar", "amount", "moment"]) fun _ _ _ _ _ _ us hl => match us, hl with | [_, _, _, _], _ => rfl
  have h_sTkI : Meth K TT "__init__" f28 := ⟨a28, i28, k28⟩
  have MKTT : Mk K TT f28 := ⟨mkTT, a28, i28, kcTT⟩
  have F_sTkMoment := fun_mk (st := sTkMoment) l29 c29 k29
  have b_sTkMoment := F_sTkMoment.binds (ps := ["self"]) fun _ _ _ _ _ _ us hl => match us, hl with | [_], _ => rfl
  have P_sTkMoment : PropOf K TT "moment" p29 f29 := ⟨a29, g29, t29, _, r29⟩
  have F_sTkLeft := fun_mk (st := sTkLeft) l30 c30 k30
  have b_sTkLeft := F_sTkLeft.binds (ps := ["self"]) fun _ _ _ _ _ _ us hl => match us, hl with | [_], _ => rfl
  have P_sTkLeft : PropOf K TT "left" p30 f30 := ⟨a30, g30, t30, _, r30⟩
  have F_sTkPaused := fun_mk (st := sTkPaused) l31 c31 k31
  have b_sTkPaused := F_sTkPaused.binds (ps := ["self"]) fun _ _ _ _ _ _ us hl => match us, hl with | [_], _ => rfl
  have P_sTkPaused : PropOf K TT "is_paused" p31 f31 := ⟨a31, g31, t31, _, r31⟩
  have o_sTkGo : Own K TT "_go_on" f32 := ⟨a32, i32, j32⟩
  have F_sTkGo := fun_mk (st := sTkGo) l32 c32 k32
  have b_sTkGo := F_sTkGo.binds (ps := ["self", "call", "calendar", "amount", "still"]) fun _ _ _ _ _ _ us hl => match us, hl with | [_, _, _, _, _], _ => rfl
  have h_sTkGo : Meth K TT "_go_on" f32 := ⟨a32, i32, k32⟩
  have o_sTkPause : Own K TT "pause" f33 := ⟨a33, i33, j33⟩
  have F_sTkPause := fun_mk (st := sTkPause) l33 c33 k33
  have b_sTkPause := F_sTkPause.binds (ps := ["self", "moment"]) fun _ _ _ _ _ _ us hl => match us, hl with | [_, _], _ => rfl
  have h_sTkPause : Meth K TT "pause" f33 := ⟨a33, i33, k33⟩
  have o_sTkResume : Own K TT "resume" f34 := ⟨a34, i34, j34⟩
  have F_sTkResume := fun_mk (st := sTkResume) l34 c34 k34
  have b_sTkResume := F_sTkResume.binds (ps := ["self", "moment"]) fun _ _ _ _ _ _ us hl => match us, hl with | [_, _], _ => rfl
  have h_sTkResume : Meth K TT "resume" f34 := ⟨a34, i34, k34⟩
  have o_sTkSwitch : Own K TT "switch" f35 := ⟨a35, i35, j35⟩
  have F_sTkSwitch := fun_mk (st := sTkSwitch) l35 c35 k35
  have b_sTkSwitch := F_sTkSwitch.binds (ps := ["self", "calendar", "moment"]) fun _ _ _ _ _ _ us hl => match us, hl with | [_, _, _], _ => rfl
  have h_sTkSwitch : Meth K TT "switch" f35 := ⟨a35, i35, k35⟩
  have o_sTkEnlarge : Own K TT "enlarge" f36 := ⟨a36, i36, j36⟩
  have F_sTkEnlarge := fun_mk (st := sTkEnlarge) l36 c36 k36
  have b_sTkEnlarge := F_sTkEnlarge.binds (ps := ["self", "amount", "moment"]) fun _ _ _ _ _ _ us hl => match us, hl with | [_, _, _], _ => rfl
  have h_sTkEnlarge : Meth K TT "enlarge" f36 := ⟨a36, i36, k36⟩
  have o_sTkLeftAt : Own K TT "left_at" f37 := ⟨a37, i37, j37⟩
  have F_sTkLeftAt := fun_mk (st := sTkLeftAt) l37 c37 k37
  have b_sTkLeftAt := F_sTkLeftAt.binds (ps := ["self", "moment"]) fun _ _ _ _ _ _ us hl => match us, hl with | [_, _], _ => rfl
  have h_sTkLeftAt : Meth K TT "left_at" f37 := ⟨a37, i37, k37⟩
  have o_sTkDone : Own K TT "done_at" f38 := ⟨a38, i38, j38⟩
  have F_sTkDone := fun_mk (st := sTkDone) l38 c38 k38
  have b_sTkDone := F_sTkDone.binds (ps := ["self"]) fun _ _ _ _ _ _ us hl => match us, hl with | [_], _ => rfl
  have h_sTkDone : Meth K TT "done_at" f38 := ⟨a38, i38, k38⟩
  have clC : Cls K C := ⟨pgC, hdC, poC, saC⟩
  have mgC := PySem.W.mg_of X G aC
  have clTT : Cls K TT := ⟨pgTT, hdTT, poTT, saTT⟩
  have mgTT := PySem.W.mg_of X G aTT
  have clSS : Cls K SS := ⟨pgSS, hdSS, poSS, saSS⟩
  have mgSS := PySem.W.mg_of X G aSS
  have mgCD := PySem.W.mg_of X G aCD
  have mgCA := PySem.W.mg_of X G aCA
  have mgCM := PySem.W.mg_of X G aCM
  have mgCW := PySem.W.mg_of X G aCW
  have EC_CA : EC K mg "InvalidAmount" CA fE := ⟨⟨⟨⟨_, _, _, _, _, _, _, _, _, _, _, _, _, _, _, xCA, rfl⟩, sCA, bCA, tCA, kCA⟩, vCA, iCA, ⟨gCA, hCA, bCA, dCA, lCA, icN, icT, mCA⟩⟩, mgCA⟩
  have ex_CA : PySem.W.exmOne K (.ref CA) (.ref CD) = some true := PySem.W.exm_ref bCD dCD tCD uDCA
  have ki_CA_CA : PySem.W.kitOne K (.ref CA) (.ref CA) = some true := kit_eq
  have ki_CA_CM : PySem.W.kitOne K (.ref CA) (.ref CM) = some false := kit_ne uCACM uCACA dCM tCM
  have ki_CA_CW : PySem.W.kitOne K (.ref CA) (.ref CW) = some false := kit_ne uCACW uCACA dCW tCW
  have EC_CM : EC K mg "InvalidMoment" CM fE := ⟨⟨⟨⟨_, _, _, _, _, _, _, _, _, _, _, _, _, _, _, xCM, rfl⟩, sCM, bCM, tCM, kCM⟩, vCM, iCM, ⟨gCM, hCM, bCM, dCM, lCM, icN, icT, mCM⟩⟩, mgCM⟩
  have ex_CM : PySem.W.exmOne K (.ref CM) (.ref CD) = some true := PySem.W.exm_ref bCD dCD tCD uDCM
  have ki_CM_CA : PySem.W.kitOne K (.ref CM) (.ref CA) = some false := kit_ne uCMCA uCMCM dCA tCA
  have ki_CM_CM : PySem.W.kitOne K (.ref CM) (.ref CM) = some true := kit_eq
  have ki_CM_CW : PySem.W.kitOne K (.ref CM) (.ref CW) = some false := kit_ne uCMCW uCMCM dCW tCW
  have EC_CW : EC K mg "WrongState" CW fE := ⟨⟨⟨⟨_, _, _, _, _, _, _, _, _, _, _, _, _, _, _, xCW, rfl⟩, sCW, bCW, tCW, kCW⟩, vCW, iCW, ⟨gCW, hCW, bCW, dCW, lCW, icN, icT, mCW⟩⟩, mgCW⟩
  have ex_CW : PySem.W.exmOne K (.ref CW) (.ref CD) = some true := PySem.W.exm_ref bCD dCD tCD uDCW
  have ki_CW_CA : PySem.W.kitOne K (.ref CW) (.ref CA) = some false := kit_ne uCWCA uCWCW dCA tCA
  have ki_CW_CM : PySem.W.kitOne K (.ref CW) (.ref CM) = some false := kit_ne uCWCM uCWCW dCM tCM
  have ki_CW_CW : PySem.W.kitOne K (.ref CW) (.ref CW) = some true := kit_eq
  have F_sErr := fun_mk (st := sErr) lE cE kE
  have b_sErr := F_sErr.binds (ps := ["self", "value"]) fun _ _ _ _ _ _ us hl => match us, hl with | [_, _], _ => rfl
  have n_int : mg "int" = none := PySem.W.mg_none_of X G z_int
  have n_len : mg "len" = none := PySem.W.mg_none_of X G z_len
  have n_abs : mg "abs" = none := PySem.W.mg_none_of X G z_abs
  have n_max : mg "max" = none := PySem.W.mg_none_of X G z_max
  have n_min : mg "min" = none := PySem.W.mg_none_of X G z_min
  have n_range : mg "range" = none := PySem.W.mg_none_of X G z_range
  have n_repr : mg "repr" = none := PySem.W.mg_none_of X G z_repr
  have n_list : mg "list" = none := PySem.W.mg_none_of X G z_list
  have n_enumerate : mg "enumerate" = none := PySem.W.mg_none_of X G z_enumerate
  have n_sum : mg "sum" = none := PySem.W.mg_none_of X G z_sum
  have n_divmod : mg "divmod" = none := PySem.W.mg_none_of X G z_divmod
  have n_sorted : mg "sorted" = none := PySem.W.mg_none_of X G z_sorted
  have n_zip : mg "zip" = none := PySem.W.mg_none_of X G z_zip
  have n_set : mg "set" = none := PySem.W.mg_none_of X G z_set
  have n_isinstance : mg "isinstance" = none := PySem.W.mg_none_of X G z_isinstance
  have n_bool : mg "bool" = none := PySem.W.mg_none_of X G z_bool
  have v_GREATEST_WEEK := PySem.W.mg_of X G q_GREATEST_WEEK
  have v_GREATEST_SPEED := PySem.W.mg_of X G q_GREATEST_SPEED
  refine ⟨PySem.W.fnOf "law" "law" (defArgs sLaw) (defBody sLaw) (defScope sLaw) .none kV23 dc23 pm23 an23 cd23 ct23, fun s v => .of_eq rfl, fun base _ _ => ?_⟩
  have EI : ErI l.prog w K mg base fE _ := ⟨ok_err F_sErr, b_sErr, tE⟩
  have T : Blt mg := ⟨n_int, n_len, n_abs, n_max, n_min, n_range, n_repr, n_list⟩
  have Q : Con mg := ⟨⟨_, v_GREATEST_WEEK⟩, ⟨_, v_GREATEST_SPEED⟩, n_enumerate⟩
  have Z : Cal K mg C := ⟨clC, nC_speeds, nC_changes, mgC⟩
  have T2 : Blt2 mg := ⟨n_sum, n_divmod⟩
  have CWk : At l.prog w K mg base 1 "check_week" ["number"] spChkW _ _ := ⟨ok_chkW F_sChkWeek Q, m_sChkWeek, k_sChkWeek, b_sChkWeek⟩
  have IBh : At l.prog w K mg base 1 "is_behind" ["changes", "index"] (spBehind K) _ _ := ⟨ok_behind F_sBehind, m_sBehind, k_sBehind, b_sBehind⟩
  have IS : At l.prog w K mg base 1 "is_speed" ["number"] spIsSpeed _ _ := ⟨ok_isSpeed F_sIsSpeed Q, m_sIsSpeed, k_sIsSpeed, b_sIsSpeed⟩
  have S1 : At l.prog w K mg base 2 "check_speeds" ["speeds"] (spChkS K) _ _ := ⟨ok_chkS F_sChkSpeeds Q T IS CWk, m_sChkSpeeds, k_sChkSpeeds, b_sChkSpeeds⟩
  have S2 : At l.prog w K mg base 2 "check_changes" ["changes"] (spChkC K) _ _ := ⟨ok_chkC F_sChkChanges Q T IS IBh, m_sChkChanges, k_sChkChanges, b_sChkChanges⟩
  have GI : FnOk l.prog w K mg base CX0 3 _ _ ["self", "speeds", "changes"] (spInit C K) := ok_init F_sInit Z T S1 S2
  have L : Tk l.prog w K mg base _ _ := ⟨ok_take F_sTake T, m_sTake, k_sTake, b_sTake⟩
  have B : Nb l.prog w K mg base _ _ := ⟨ok_number F_sNumber T L, m_sNumber, k_sNumber, b_sNumber⟩
  have W : At l.prog w K mg base 1 "_law_well" ["script", "place"] (spWell K) _ _ := ⟨ok_well F_sWell T, m_sWell, k_sWell, b_sWell⟩
  have Pa : At l.prog w K mg base 2 "_law_paces" ["well", "size"] spPaces _ _ := ⟨ok_paces F_sPaces T L, m_sPaces, k_sPaces, b_sPaces⟩
  have Ma : At l.prog w K mg base 3 "_law_marks" ["well", "size", "cap"] spMarks _ _ := ⟨ok_marks F_sMarks T L B, m_sMarks, k_sMarks, b_sMarks⟩
  have W2 : Pp l.prog w K mg base C "speeds" (spSpeeds C) _ _ _ := ⟨P_sSpeeds, ok_speeds F_sSpeeds Z T, b_sSpeeds⟩
  have W3 : Pp l.prog w K mg base C "changes" (spChanges C) _ _ _ := ⟨P_sChanges, ok_changes F_sChanges Z T, b_sChanges⟩
  have Am : At l.prog w K mg base 1 "check_amount" ["amount"] spAmount _ _ := ⟨ok_amount F_sAmount, m_sAmount, k_sAmount, b_sAmount⟩
  have Ta : At l.prog w K mg base 1 "weekly_tally" ["speeds", "moment"] spTally _ _ := ⟨ok_tally F_sTally T T2, m_sTally, k_sTally, b_sTally⟩
  have Ww : At l.prog w K mg base 2 "weekly_work" ["speeds", "begin", "end"] spWWork _ _ := ⟨ok_wwork F_sWWork Ta, m_sWWork, k_sWWork, b_sWWork⟩
  have Wd : At l.prog w K mg base 1 "weekly_due" ["speeds", "begin", "left"] spWDue _ _ := ⟨ok_wdue F_sWDue T T2, m_sWDue, k_sWDue, b_sWDue⟩
  have Du : At l.prog w K mg base 3 "due" ["calendar", "moment", "amount"] (spDue C) _ _ := ⟨ok_due F_sDue Z Am Ww Wd W2 W3, m_sDue, k_sDue, b_sDue⟩
  have Sp : At l.prog w K mg base 1 "check_span" ["begin", "end"] spSpan _ _ := ⟨ok_span F_sSpan, m_sSpan, k_sSpan, b_sSpan⟩
  have Wk : At l.prog w K mg base 3 "work" ["calendar", "begin", "end"] (spWork C) _ _ := ⟨ok_work F_sWork T T2 Z Sp Ww W2 W3, m_sWork, k_sWork, b_sWork⟩
  have Pc : At l.prog w K mg base 1 "_law_pace" ["paces", "marks", "at"] spPace _ _ := ⟨ok_pace F_sPace T, m_sPace, k_sPace, b_sPace⟩
  have Ne : At l.prog w K mg base 3 "_law_near" ["well", "marks", "back"] spNear _ _ := ⟨ok_near F_sNear T L B, m_sNear, k_sNear, b_sNear⟩
  have ZS : StC K mg SS := ⟨clSS, nSScalendar, nSSamount, nSSbegin, nSSstill, mgSS⟩
  have Y : TkC K TT := ⟨clTT, nTT_asked, nTT_story, nTT_stages, nTT_most⟩
  have AmX : AtX l.prog w K mg base 3 "check_amount" ["amount"] (spAmountX CA) _ _ := ⟨ok_amountX F_sAmount EC_CA EI, m_sAmount, k_sAmount, b_sAmount⟩
  have GSS : FnOk l.prog w K mg base CX0 1 _ _ ["self", "calendar", "amount", "begin", "still"] (spStI SS) := ok_stageI F_sStageI ZS
  have GTX : FnOk l.prog w K mg base (L2.CX l.prog w) 4 _ _ ["self", "calendar", "amount", "moment"] (spTkIX C TT SS CA) := ok_tkIX F_sTkI ZS Y AmX MKSS GSS b_sStageI
  have GT : FnOk l.prog w K mg base CX0 4 _ _ ["self", "calendar", "amount", "moment"] (spTkI C TT SS) := calmOk GTX fun vs H Q E h => tkI_of h
  have Y1 : Pp l.prog w K mg base TT "moment" (spTkMoment C TT SS) _ _ _ := ⟨P_sTkMoment, ok_tkMoment F_sTkMoment ZS Y, b_sTkMoment⟩
  have Y2 : Pp l.prog w K mg base TT "left" (spTkLeft C TT SS) _ _ _ := ⟨P_sTkLeft, ok_tkLeft F_sTkLeft ZS Y, b_sTkLeft⟩
  have Y3 : Pp l.prog w K mg base TT "is_paused" (spTkPaused C TT SS) _ _ _ := ⟨P_sTkPaused, ok_tkPaused F_sTkPaused ZS Y, b_sTkPaused⟩
  have GLAX : FnOk l.prog w K mg base (L2.CX l.prog w) 4 _ _ ["self", "moment"] (spTkLeftAt C TT SS CM) := ok_tkLeftAt F_sTkLeftAt T ZS Y EC_CM EI Wk
  have GLA : FnOk l.prog w K mg base CX0 4 _ _ ["self", "moment"] (spTkLeftAtC C TT SS) := calmOk GLAX leftAt_calm
  have GDA : FnOk l.prog w K mg base CX0 4 _ _ ["self"] (spTkDone C TT SS) := ok_tkDone F_sTkDone ZS Y Du
  have NDX : AtX l.prog w K mg base 3 "check_not_done" ["left", "moment"] (spNotDone CW) _ _ := ⟨ok_notDone F_sNotDone EC_CW EI, m_sNotDone, k_sNotDone, b_sNotDone⟩
  have GGO : FnOk l.prog w K mg base CX0 3 _ _ ["self", "call", "calendar", "amount", "still"] (spTkGo C TT SS) := ok_tkGo F_sTkGo ZS Y MKSS GSS b_sStageI
  have GPAX : FnOk l.prog w K mg base (L2.CX l.prog w) 5 _ _ ["self", "moment"] (spTkPause C TT SS CM CW) := ok_tkPause F_sTkPause ZS Y EC_CW EI NDX h_sTkLeftAt GLAX b_sTkLeftAt Y3 h_sTkGo GGO b_sTkGo
  have GPA : FnOk l.prog w K mg base CX0 5 _ _ ["self", "moment"] (calm (spTkPause C TT SS CM CW)) := calmly GPAX
  have GREX : FnOk l.prog w K mg base (L2.CX l.prog w) 5 _ _ ["self", "moment"] (spTkResume C TT SS CM CW) := ok_tkResume F_sTkResume ZS Y EC_CW EI h_sTkLeftAt GLAX b_sTkLeftAt Y3 h_sTkGo GGO b_sTkGo
  have GRE : FnOk l.prog w K mg base CX0 5 _ _ ["self", "moment"] (calm (spTkResume C TT SS CM CW)) := calmly GREX
  have GSWX : FnOk l.prog w K mg base (L2.CX l.prog w) 5 _ _ ["self", "calendar", "moment"] (spTkSwitch C TT SS CM CW) := ok_tkSwitch F_sTkSwitch Y NDX h_sTkLeftAt GLAX b_sTkLeftAt Y3 h_sTkGo GGO b_sTkGo
  have GSW : FnOk l.prog w K mg base CX0 5 _ _ ["self", "calendar", "moment"] (calm (spTkSwitch C TT SS CM CW)) := calmly GSWX
  have GENX : FnOk l.prog w K mg base (L2.CX l.prog w) 5 _ _ ["self", "amount", "moment"] (spTkEnlarge C TT SS CM CW CA) := ok_tkEnlarge F_sTkEnlarge ZS Y AmX NDX h_sTkLeftAt GLAX b_sTkLeftAt Y3 h_sTkGo GGO b_sTkGo
  have GEN : FnOk l.prog w K mg base CX0 5 _ _ ["self", "amount", "moment"] (calm (spTkEnlarge C TT SS CM CW CA)) := calmly GENX
  have Cl : At l.prog w K mg base 6 "_law_call" ["well", "ticket", "state", "spot", "lists"] (spCallL C TT SS) _ _ := ⟨ok_callL F_sCall T L Z Y MKC GI b_sInit h_sTkPause GPA b_sTkPause h_sTkResume GRE b_sTkResume h_sTkEnlarge GEN b_sTkEnlarge h_sTkSwitch GSW b_sTkSwitch, m_sCall, k_sCall, b_sCall⟩
  have En : At l.prog w K mg base 2 "_law_end" ["state", "spot", "lists"] spEndL _ _ := ⟨ok_endL F_sEnd T Pc, m_sEnd, k_sEnd, b_sEnd⟩
  have GF : FnG l.prog w K mg base 7 _ _ ["well"] spFits := ok_fits F_sFits T Z Y L Pa Ma MKC GI b_sInit Ne Pc mgTT MKTT GT b_sTkI Y2 h_sTkDone GDA b_sTkDone h_sTkLeftAt GLA b_sTkLeftAt Cl En
  exact ok_law (by decide) F_sLaw T W GF m_sFits k_sFits b_sFits
end
end DK
open PySem PySem.W PyProof.Rows
set_option maxRecDepth 100000 in
set_option maxHeartbeats 0 in
theorem PySem.Challenge.cw_dueclocks_k65_tickets_moment_by_moment_holds : PySem.Challenge.rw_dueclocks_k65_tickets_moment_by_moment.Holds := by
  w_on; o_law; k_head; (case hw => w_witness2)
  k_fill
  refine DK.walkG (l := PySem.Challenge.rw_dueclocks_k65_tickets_moment_by_moment) (n := 63) (k := 8) (x := "script") (sp := DK.spLaw) rfl (by decide) rfl ⟨rfl, by decide, by decide⟩ (fun w h Y => PySem.W.kIn_of Y) ?F (fun J H a ns hl hO hS => ⟨a, ns, rfl, DK.Scr.of hO hS, hl, fun _ => rfl⟩)
  case F =>
    intro w mg fa h KX G hmg
    refine' DK.all_mk KX G hmg ?aC ?aTT ?aSS ?aCD ?aCA ?aCM ?aCW ?iCA ?a0 ?l0 ?c0 ?k0 ?a1 ?l1 ?c1 ?k1 ?a2 ?l2 ?c2 ?k2 ?a3 ?l3 ?c3 ?k3 ?a4 ?l4 ?c4 ?k4 ?a5 ?l5 ?c5 ?k5 ?a6 ?l6 ?c6 ?k6 ?a7 ?l7 ?c7 ?k7 ?a8 ?l8 ?c8 ?k8 ?a9 ?l9 ?c9 ?k9 ?a10 ?l10 ?c10 ?k10 ?a11 ?l11 ?c11 ?k11 ?a12 ?l12 ?c12 ?k12 ?a13 ?l13 ?c13 ?k13 ?a14 ?l14 ?c14 ?k14 ?a15 ?l15 ?c15 ?k15 ?a16 ?l16 ?c16 ?k16 ?a17 ?l17 ?c17 ?k17 ?a18 ?l18 ?c18 ?k18 ?a19 ?l19 ?c19 ?k19 ?a20 ?l20 ?c20 ?k20 ?a21 ?l21 ?c21 ?k21 ?a22 ?l22 ?c22 ?k22 ?a23 ?l23 ?c23 ?k23 ?a24 ?i24 ?j24 ?l24 ?c24 ?k24 ?a25 ?g25 ?t25 ?r25 ?l25 ?c25 ?k25 ?a26 ?g26 ?t26 ?r26 ?l26 ?c26 ?k26 ?a27 ?i27 ?j27 ?l27 ?c27 ?k27 ?a28 ?i28 ?j28 ?l28 ?c28 ?k28 ?a29 ?g29 ?t29 ?r29 ?l29 ?c29 ?k29 ?a30 ?g30 ?t30 ?r30 ?l30 ?c30 ?k30 ?a31 ?g31 ?t31 ?r31 ?l31 ?c31 ?k31 ?a32 ?i32 ?j32 ?l32 ?c32 ?k32 ?a33 ?i33 ?j33 ?l33 ?c33 ?k33 ?a34 ?i34 ?j34 ?l34 ?c34 ?k34 ?a35 ?i35 ?j35 ?l35 ?c35 ?k35 ?a36 ?i36 ?j36 ?l36 ?c36 ?k36 ?a37 ?i37 ?j37 ?l37 ?c37 ?k37 ?a38 ?i38 ?j38 ?l38 ?c38 ?k38 ?z_int ?z_len ?z_abs ?z_max ?z_min ?z_range ?z_repr ?z_list ?z_enumerate ?z_sum ?z_divmod ?z_sorted ?z_zip ?z_set ?z_isinstance ?z_bool ?q_GREATEST_WEEK ?q_GREATEST_SPEED ?pgC ?hdC ?poC ?mkC ?kcC ?saC ?nC_speeds ?nC_changes ?pgTT ?hdTT ?poTT ?mkTT ?kcTT ?saTT ?nTT_asked ?nTT_story ?nTT_stages ?nTT_most ?pgSS ?hdSS ?poSS ?mkSS ?kcSS ?saSS ?nSScalendar ?nSSamount ?nSSbegin ?nSSstill ?tCD ?dCD ?tCA ?dCA ?tCM ?dCM ?tCW ?dCW ?bCD ?xCA ?sCA ?bCA ?kCA ?vCA ?gCA ?hCA ?lCA ?mCA ?uDCA ?uCACA ?uCACM ?uCACW ?xCM ?sCM ?bCM ?kCM ?vCM ?iCM ?gCM ?hCM ?lCM ?mCM ?uDCM ?uCMCA ?uCMCM ?uCMCW ?xCW ?sCW ?bCW ?kCW ?vCW ?iCW ?gCW ?hCW ?lCW ?mCW ?uDCW ?uCWCA ?uCWCM ?uCWCW ?icN ?icT ?lE ?cE ?kE ?tE
    (case aC => k_is)
    (case aTT => k_is)
    (case aSS => k_is)
    (case aCD => k_is)
    (case aCA => k_is)
    (case aCM => k_is)
    (case aCW => k_is)
    (case iCA => k_is)
    (case a0 => k_is)
    (case l0 => k_is)
    (case c0 => k_is)
    (case k0 => k_is)
    (case a1 => k_is)
    (case l1 => k_is)
    (case c1 => k_is)
    (case k1 => k_is)
    (case a2 => k_is)
    (case l2 => k_is)
    (case c2 => k_is)
    (case k2 => k_is)
    (case a3 => k_is)
    (case l3 => k_is)
    (case c3 => k_is)
    (case k3 => k_is)
    (case a4 => k_is)
    (case l4 => k_is)
    (case c4 => k_is)
    (case k4 => k_is)
    (case a5 => k_is)
    (case l5 => k_is)
    (case c5 => k_is)
    (case k5 => k_is)
    (case a6 => k_is)
    (case l6 => k_is)
    (case c6 => k_is)
    (case k6 => k_is)
    (case a7 => k_is)
    (case l7 => k_is)
    (case c7 => k_is)
    (case k7 => k_is)
    (case a8 => k_is)
    (case l8 => k_is)
    (case c8 => k_is)
    (case k8 => k_is)
    (case a9 => k_is)
    (case l9 => k_is)
    (case c9 => k_is)
    (case k9 => k_is)
    (case a10 => k_is)
    (case l10 => k_is)
    (case c10 => k_is)
    (case k10 => k_is)
    (case a11 => k_is)
    (case l11 => k_is)
    (case c11 => k_is)
    (case k11 => k_is)
    (case a12 => k_is)
    (case l12 => k_is)
    (case c12 => k_is)
    (case k12 => k_is)
    (case a13 => k_is)
    (case l13 => k_is)
    (case c13 => k_is)
    (case k13 => k_is)
    (case a14 => k_is)
    (case l14 => k_is)
    (case c14 => k_is)
    (case k14 => k_is)
    (case a15 => k_is)
    (case l15 => k_is)
    (case c15 => k_is)
    (case k15 => k_is)
    (case a16 => k_is)
    (case l16 => k_is)
    (case c16 => k_is)
    (case k16 => k_is)
    (case a17 => k_is)
    (case l17 => k_is)
    (case c17 => k_is)
    (case k17 => k_is)
    (case a18 => k_is)
    (case l18 => k_is)
    (case c18 => k_is)
    (case k18 => k_is)
    (case a19 => k_is)
    (case l19 => k_is)
    (case c19 => k_is)
    (case k19 => k_is)
    (case a20 => k_is)
    (case l20 => k_is)
    (case c20 => k_is)
    (case k20 => k_is)
    (case a21 => k_is)
    (case l21 => k_is)
    (case c21 => k_is)
    (case k21 => k_is)
    (case a22 => k_is)
    (case l22 => k_is)
    (case c22 => k_is)
    (case k22 => k_is)
    (case a23 => k_is)
    (case l23 => k_is)
    (case c23 => k_is)
    (case k23 => k_is)
    (case a24 => k_is)
    (case i24 => k_is)
    (case j24 => k_is)
    (case l24 => k_is)
    (case c24 => k_is)
    (case k24 => k_is)
    (case a25 => k_is)
    (case g25 => k_is)
    (case t25 => k_is)
    (case r25 => k_is)
    (case l25 => k_is)
    (case c25 => k_is)
    (case k25 => k_is)
    (case a26 => k_is)
    (case g26 => k_is)
    (case t26 => k_is)
    (case r26 => k_is)
    (case l26 => k_is)
    (case c26 => k_is)
    (case k26 => k_is)
    (case a27 => k_is)
    (case i27 => k_is)
    (case j27 => k_is)
    (case l27 => k_is)
    (case c27 => k_is)
    (case k27 => k_is)
    (case a28 => k_is)
    (case i28 => k_is)
    (case j28 => k_is)
    (case l28 => k_is)
    (case c28 => k_is)
    (case k28 => k_is)
    (case a29 => k_is)
    (case g29 => k_is)
    (case t29 => k_is)
    (case r29 => k_is)
    (case l29 => k_is)
    (case c29 => k_is)
    (case k29 => k_is)
    (case a30 => k_is)
    (case g30 => k_is)
    (case t30 => k_is)
    (case r30 => k_is)
    (case l30 => k_is)
    (case c30 => k_is)
    (case k30 => k_is)
    (case a31 => k_is)
    (case g31 => k_is)
    (case t31 => k_is)
    (case r31 => k_is)
    (case l31 => k_is)
    (case c31 => k_is)
    (case k31 => k_is)
    (case a32 => k_is)
    (case i32 => k_is)
    (case j32 => k_is)
    (case l32 => k_is)
    (case c32 => k_is)
    (case k32 => k_is)
    (case a33 => k_is)
    (case i33 => k_is)
    (case j33 => k_is)
    (case l33 => k_is)
    (case c33 => k_is)
    (case k33 => k_is)
    (case a34 => k_is)
    (case i34 => k_is)
    (case j34 => k_is)
    (case l34 => k_is)
    (case c34 => k_is)
    (case k34 => k_is)
    (case a35 => k_is)
    (case i35 => k_is)
    (case j35 => k_is)
    (case l35 => k_is)
    (case c35 => k_is)
    (case k35 => k_is)
    (case a36 => k_is)
    (case i36 => k_is)
    (case j36 => k_is)
    (case l36 => k_is)
    (case c36 => k_is)
    (case k36 => k_is)
    (case a37 => k_is)
    (case i37 => k_is)
    (case j37 => k_is)
    (case l37 => k_is)
    (case c37 => k_is)
    (case k37 => k_is)
    (case a38 => k_is)
    (case i38 => k_is)
    (case j38 => k_is)
    (case l38 => k_is)
    (case c38 => k_is)
    (case k38 => k_is)
    (case z_int => k_is)
    (case z_len => k_is)
    (case z_abs => k_is)
    (case z_max => k_is)
    (case z_min => k_is)
    (case z_range => k_is)
    (case z_repr => k_is)
    (case z_list => k_is)
    (case z_enumerate => k_is)
    (case z_sum => k_is)
    (case z_divmod => k_is)
    (case z_sorted => k_is)
    (case z_zip => k_is)
    (case z_set => k_is)
    (case z_isinstance => k_is)
    (case z_bool => k_is)
    (case q_GREATEST_WEEK => k_is)
    (case q_GREATEST_SPEED => k_is)
    (case pgC => k_is)
    (case hdC => k_is)
    (case poC => k_is)
    (case mkC => k_is)
    (case kcC => k_is)
    (case saC => k_is)
    (case nC_speeds => k_is)
    (case nC_changes => k_is)
    (case pgTT => k_is)
    (case hdTT => k_is)
    (case poTT => k_is)
    (case mkTT => k_is)
    (case kcTT => k_is)
    (case saTT => k_is)
    (case nTT_asked => k_is)
    (case nTT_story => k_is)
    (case nTT_stages => k_is)
    (case nTT_most => k_is)
    (case pgSS => k_is)
    (case hdSS => k_is)
    (case poSS => k_is)
    (case mkSS => k_is)
    (case kcSS => k_is)
    (case saSS => k_is)
    (case nSScalendar => k_is)
    (case nSSamount => k_is)
    (case nSSbegin => k_is)
    (case nSSstill => k_is)
    (case tCD => k_is)
    (case dCD => k_is)
    (case tCA => k_is)
    (case dCA => k_is)
    (case tCM => k_is)
    (case dCM => k_is)
    (case tCW => k_is)
    (case dCW => k_is)
    (case bCD => k_is)
    (case xCA => k_is)
    (case sCA => k_is)
    (case bCA => k_is)
    (case kCA => k_is)
    (case vCA => k_is)
    (case gCA => k_is)
    (case hCA => k_is)
    (case lCA => k_is)
    (case mCA => k_is)
    (case uDCA => k_is)
    (case uCACA => k_is)
    (case uCACM => k_is)
    (case uCACW => k_is)
    (case xCM => k_is)
    (case sCM => k_is)
    (case bCM => k_is)
    (case kCM => k_is)
    (case vCM => k_is)
    (case iCM => k_is)
    (case gCM => k_is)
    (case hCM => k_is)
    (case lCM => k_is)
    (case mCM => k_is)
    (case uDCM => k_is)
    (case uCMCA => k_is)
    (case uCMCM => k_is)
    (case uCMCW => k_is)
    (case xCW => k_is)
    (case sCW => k_is)
    (case bCW => k_is)
    (case kCW => k_is)
    (case vCW => k_is)
    (case iCW => k_is)
    (case gCW => k_is)
    (case hCW => k_is)
    (case lCW => k_is)
    (case mCW => k_is)
    (case uDCW => k_is)
    (case uCWCA => k_is)
    (case uCWCM => k_is)
    (case uCWCW => k_is)
    (case icN => k_is)
    (case icT => k_is)
    (case lE => k_is)
    (case cE => k_is)
    (case kE => k_is)
    (case tE => k_is)

