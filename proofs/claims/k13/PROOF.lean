import PyProof.Rows.All
import Wide.All
import OpenK.AllK
import Wide.FinOn
import HandS.ForMost
import HandS.Codes
import HandS.Walk
import HandS.DictComp
import HandS.ListItems
import HandS.Property
import HandS.Wide
import HandS.Style
import HandS.More
import HandS.Defaults
import HandS.MakeKwOnly
import HandS.IsInst
import HandS.SetBool
import HandS.Strs
import PySem.Challenge.RW_dueclocks_k13_latest_begins
set_option Elab.async false
set_option linter.all false
set_option maxRecDepth 100000
set_option maxHeartbeats 4000000
namespace DK
open PySem PySem.Spec PyProof.Rows L2

/-- a def that is only run where no repr is under way -/
structure FnG (P : Program) (w : World) (K : PySem.W.Frag) (mg : Str → Option Value) (b0 : Heap) (k : Nat) (f : Addr)
    (fd : FuncData) (ps : List Str) (sp : Sp) : Prop where
  size : ∀ vs H Q E, sp vs H Q E → vs.length = ps.length
  go : ∀ (B : Around) (stk : List Env) (s : Shared) (H : Hp) (ar : Args) (us : List Value) (vs : List V) (Q : VK) (E : XK),
    B.guards = some [] → Room k B → Env0 P w K mg b0 B stk s H → BindsTo s fd ar (ps.zip us) → Vals vs us → sp vs H Q E →
      codeAny (model P w) B (.call (.ref f) ar) (CR CX0 stk P w H s Q E) s

section
variable {P : Program} {w : World} {K : PySem.W.Frag} {mg : Str → Option Value} {b0 : Heap}

theorem okG {x qual : Str} {st : Stmt} {f : Addr} {fd : FuncData} {N ps : List Str} {k : Nat} {sp : Sp}
    (F : Fun K x qual st f fd) (S : FnScope N ps (defScope st)) (size : ∀ vs H Q E, sp vs H Q E → vs.length = ps.length)
    (body : ∀ (cdv : Value) (B : Around) (stk : List Env) (s : Shared) (H : Hp) (vs : List V) (Q : VK) (E : XK),
      B.guards = some [] → Room k (B.deeper (envOfC qual (defScope st) s.heap.objs.size f cdv)) → sp vs H Q E →
      ∃ t, PSs (cxOf CX0 P w K mg b0 N qual (defScope st) f cdv B stk s H E).nox (defBody st) t ∧
        t { nx := fun _ J => Q .non J, rt := Q } (start N vs) H) : FnG P w K mg b0 (k + 1) f fd ps sp := by
  obtain ⟨oc, od, kV, dc, pm, an, cv, ct, osl, rfl, hf, hcode⟩ := F.ex
  refine ⟨size, fun B stk s H ar us vs Q E hgd hr env hbi hv hs => ?_⟩
  have hlen := size _ _ _ _ hs
  have inK : K.In s.heap := env.mod.kin.keeps fun c u g => (env.bs c u g).1
  have noL : s.heap.NoLimit := env.mod.nolimit.keeps fun c u g => (env.bs c u g).1
  have kinds : ∀ z ∈ ps.zip us, (defScope st).names.lookup z.1 = some .local ∨
      ((defScope st).names.lookup z.1 = some .cell ∧
        ((cellsFrom (s.heap.objs.size + 1) (defScope st).names []).lookup z.1).isSome = true) := by
    rintro ⟨n, v⟩ hz
    rcases S.par n (List.of_mem_zip hz).1 with g | g
    · exact Or.inl g
    · exact Or.inr ⟨g, PySem.W.cellsFrom_some _ _ _ (Or.inl g)⟩
  refine codeAny_call_function hr.depth (inK _ _ hf) rfl S.co S.gen rfl (PySem.W.codeRec_of inK hcode) (hbi _ _ _ _ ?_)
  refine wpAny_newFunctionEnv_cells S.kind kinds fun en hen s2 inc => ?_
  subst hen
  refine ⟨noL.keeps inc.toInCall.keep, codeAny_func ?_⟩
  obtain ⟨t, ht0, hq⟩ := body cv B stk s H vs Q E hgd (hr.deeper _) hs
  have ht := ht0.nox
  have I : Inv (cxOf CX0 P w K mg b0 N qual (defScope st) f cv B stk s H E) [] (start N vs) H s2 := inv_start S hr.hd env hlen hv inc
  refine wpAny_mono (ht.run [] s2 (start N vs) H _ I hq) (fun fl s3 h3 => ?_) fun e s3 h3 => h3
  have close : ∀ {τ : L2.St} {J : Hp} {v : V} {u : Value}, Inv (cxOf CX0 P w K mg b0 N qual (defScope st) f cv B stk s H E) [] τ J s3 →
      RelV v u → Q v J → CE stk P w H s Q u s3 := fun {τ J v u} I3 rv q => ⟨v, J, I3.os, I3.bare, I3.base, I3.hok, rv, q⟩
  cases fl with
  | next =>
    obtain ⟨τ, J, I3, q⟩ := h3
    exact close (v := V.non) (u := Value.none) I3 rfl q
  | ret u =>
    obtain ⟨v, τ, J, I3, rv, q⟩ := h3
    exact close I3 rv q
  | cont =>
    obtain ⟨_, _, _, q⟩ := h3
    exact q.elim
  | brk =>
    obtain ⟨_, _, _, q⟩ := h3
    exact q.elim
end

section
variable {X : Cx}
/-- f(e, ..) of such a def -/
theorem pe_callG {k : Nat} {f : Addr} {fd : FuncData} {ps : List Str} {sp : Sp} {x : Str} {p pos : Pos} {e : Expr} {es : List Expr} {t : TA}
    (F : FnG X.prog X.w X.K X.mg X.base k f fd ps sp) (hgd : X.A.guards = some []) (hr : Room k X.A) (hg : Gl X x)
    (hm : X.mg x = some (.ref f)) (hk : PySem.W.keepIn X.K (.ref f) = true) (hb : Binds X.K fd ps []) (ha : PA X (e :: es) t)
    (hdb : (x == ("__debug__" : Str)) = false := by decide)
    (he : starEach (e :: es) X.env = (false, eval e X.env) :: starEach es X.env := by rfl)
    (hpl : (backTo pos (starEach es X.env)).any (·.1) = false := by rfl) :
    PE X (.Call (.Name x p) (e :: es) [] pos) (tCall sp [] E0 t) := by
  refine ⟨fun pins s σ H Q I h => ?_⟩
  refine wpAny_Call_Name_kw (ld_glob I hg hm ?_ hdb)
  refine PySem.W.callWith_K (h₀ := X.base) I.ok.mod.kin hk (thn (ha.run pos pins s σ H _ I h) fun us s1 hh => ?_) he hpl
  obtain ⟨vs, J, I1, r, q⟩ := hh
  refine ⟨I1.kIn, ?_⟩
  rw [List.append_nil] at q
  have hl : us.length = ps.length := r.length.symm.trans (F.size _ _ _ _ q)
  have bi := hb s1 us I1.kIn (by rw [List.append_nil]; exact hl)
  rw [List.append_nil] at bi
  refine wpAny_call (codeAny_mono (F.go X.A X.stack s1 J ⟨us, []⟩ us vs Q E0 hgd hr I1.env0 bi r q) fun res s2 hq => ?_)
  cases res with
  | error er => exact False.elim hq
  | ok fl =>
    cases fl with
    | ret u => exact I1.after hq
    | next => exact False.elim hq
    | brk => exact False.elim hq
    | cont => exact False.elim hq

/-- repr(x), x a list or a tuple of data -/
def rRepr (K : PySem.W.Frag) : List V → Hp → VK → Prop := fun xs H Q => ∃ (a : Addr) (d : PyData), xs = [.ref a] ∧ Dp K H (.ref a) d ∧
  d.showable = true ∧ d.hasDict = false ∧ d.depth ≤ 60 ∧ d.shown.length ≤ sizeLine ∧ Q (.str d.shown) H
theorem call_repr (hgd : X.A.guards = some []) (hu : X.A.units + 64 < cLine) : CallR X (.builtin "repr") (rRepr X.K) := by
  intro pins s σ H xs us Q I r h
  obtain ⟨a, d, rfl, hd, hs, hn, hdp, hz, q⟩ := h
  cases r with
  | cons r1 r2 =>
    cases r2
    rename_i u
    obtain rfl : u = Value.ref a := r1
    obtain ⟨as, rd⟩ := Dp.reads I d _ _ hd (show RelV (V.ref a) (Value.ref a) from rfl)
    refine repr_of_reads' rd hs (PyData.noDict_hsm hn) hgd (by omega) (fun _ _ e => e) (fun h' u tk hk => ?_) hz
    exact ⟨.str d.shown, H, I.kept hk, ⟨u, rfl⟩, q⟩
end

/-- what is hidden of the heap behind the top: the script alone, where it is not the module's own -/
structure Veil (P : Program) (w : World) (K : PySem.W.Frag) (h : Heap) (a : Addr) (ns : List Int) (H : Hp) : Prop where
  only : Only H
  at_ : SqL K H a (ns.map V.int)
  ok : HOk P w H h
  one : ∀ c, H c ≠ none → c = a
  out : H a ≠ none → K.lookup a = none

theorem veil_of {P : Program} {w : World} {K : PySem.W.Frag} {h : Heap} {a : Addr} {us : List Value} {ns : List Int} (inK : K.In h)
    (ha : h.get? a = some { cls := .type "list", data := .seq us.toArray }) (hi : IntsAre us ns) (hz : ns.length ≤ sizeLine) :
    ∃ H, Veil P w K h a ns H := by
  have rv := vals_ints hi
  cases hk : K.lookup a with
  | some o =>
    have e := (inK a o hk).symm.trans ha
    cases e
    refine ⟨fun _ => none, fun _ => Or.inl rfl, Or.inr ⟨_, us.toArray, _, hk, rfl, rfl, rfl, ?_, ?_⟩, fun c u z => ?_, fun c z => absurd rfl z, fun z => absurd rfl z⟩
    · rw [List.size_toArray, hi.length]
      exact hz
    · simpa using rv
    · exact nomatch (show (none : Option HO) = some u from z)
  | none =>
    let O : Obj := { cls := .type "list", data := .seq us.toArray }
    let H : Hp := fun c => if c = a then some (.frz O (.lst (ns.map V.int))) else none
    have hA : H a = some (.frz O (.lst (ns.map V.int))) := if_pos rfl
    have hN : ∀ c, c ≠ a → H c = none := fun c g => if_neg g
    refine ⟨H, fun c => ?_, Or.inl (Or.inr ⟨O, hA⟩), fun c u z => ?_, fun c z => ?_, fun _ => hk⟩
    · by_cases g : c = a
      · subst g
        exact Or.inr ⟨_, _, hA⟩
      · exact Or.inl (hN c g)
    · by_cases g : c = a
      · subst g
        have z2 := hA.symm.trans z
        cases z2
        refine ⟨ha, ?_, us, _, rv, ha⟩
        rw [List.length_map]
        exact hz
      · exact nomatch (hN c g).symm.trans z
    · by_cases g : c = a
      · exact g
      · exact absurd (hN c g) z

theorem lawG {P : Program} {w : World} {K : PySem.W.Frag} {mg mb : Str → Option Value} {k : Nat} {fa a : Addr} {fd : FuncData} {x : Str} {sp : Sp} {s : Shared} {us : List Value} {ns : List Int}
    (inK : K.In s.heap) (hmg : s.heap.Ns mainGlobals mg) (hmb : s.heap.Ns builtinsNs mb) (hbo : ∀ y : Str, y ≠ "__name__" → mb y = bootBuiltins y)
    (noL : s.heap.NoLimit) (gen : s.gens = #[]) (ha : s.heap.get? a = some { cls := .type "list", data := .seq us.toArray })
    (hi : IntsAre us ns) (hz : ns.length ≤ sizeLine) (hr : Room k callerA)
    (F : ∀ b0 : Heap, K.In b0 → b0.Ns mainGlobals mg → FnG P w K mg b0 k fa fd [x] sp)
    (bind : ∀ (t : Shared) (u : Value), BindsTo t fd ⟨[u], []⟩ [(x, u)])
    (hsp : ∀ H : Hp, Only H → SqL K H a (ns.map V.int) → sp [.ref a] H (fun v _ => v = .bl true) E0) :
    codeAny (model P w) callerA (.call (.ref fa) ⟨[.ref a], []⟩)
      (fun r t => r = .ok (.ret (.bool true)) ∧ OldK s.heap t.heap ∧ t.os = s.os ∧ AllBare t.gens) s := by
  obtain ⟨H, W⟩ := veil_of (P := P) (w := w) inK ha hi hz
  have through : ∀ {c : Addr} {o : Obj}, s.heap.get? c = some o → H c = none → (hidT s.heap H).get? c = some o := fun g n => hidT_get g n
  have dicts : ∀ {c : Addr} {o : Obj} {es : Array DictEntry} {ep : Nat}, s.heap.get? c = some o → o.data = .dict es ep → H c = none := by
    intro c o es ep g d
    by_cases n : H c = none
    · exact n
    · have := W.one c n
      subst this
      rw [ha] at g
      cases g
      exact nomatch d
  have names : ∀ {c : Addr} {m : Str → Option Value}, s.heap.Ns c m → (hidT s.heap H).Ns c m := fun {c m} ⟨o, es, ep, g, d, r⟩ => ⟨o, es, ep, through g (dicts g d), d, r⟩
  have inB : K.In (hidT s.heap H) := by
    intro c o g
    refine through (inK c o g) ?_
    by_cases n : H c = none
    · exact n
    · have e := W.one c n
      subst e
      rw [W.out n] at g
      exact nomatch g
  have md : Mod K mg (hidT s.heap H) := ⟨inB, names hmg, ⟨mb, names hmb, hbo⟩, noL.elim fun mc q => ⟨mc, names q.1, q.2⟩⟩
  have nil : ∀ c : Addr, c ∉ ([] : List Addr) := fun c q => nomatch q
  have env : Env0 P w K mg (hidT s.heap H) callerA [] s H :=
    ⟨rfl, md, fun c o g => of_hidT g, Nat.le_of_eq (hidT_size _ _), trivial, fun c q => absurd q (nil c), W.ok, .of_eq gen⟩
  refine codeAny_mono ((F _ inB (names hmg)).go callerA [] s H ⟨[.ref a], []⟩ [.ref a] [.ref a] _ _ rfl hr env (bind s (.ref a)) (.cons rfl .nil) (hsp H W.only W.at_)) fun r t q => ?_
  rcases r with er | fl
  · exact False.elim q
  · rcases fl with _ | _ | _ | u
    iterate 3 exact False.elim q
    · obtain ⟨v, H', os, bare, un, ok2, rv, rfl⟩ := q
      obtain rfl : u = Value.bool true := rv
      refine ⟨rfl, OldK.of_keep fun c o g => ?_, os, bare⟩
      by_cases n : H c = none
      · exact un.keep c o g n (fun z => absurd z (nil c)) (nil c)
      · rcases W.only c with z | ⟨O, xs, z⟩
        · exact absurd z n
        · have e1 := (W.ok c _ z).1
          have e2 := (ok2 c _ (un.frzs c O _ z)).1
          rw [g] at e1
          cases e1
          exact e2
/-- the end of a law row -/
theorem walkG {l : PySem.W.OpenLaw} {n k : Nat} {q : Program} {loose : List Str} {XP : (Str → Option Value) → Heap → Prop} {YP : World → Heap → Prop} {d : DefRec} {K : Params → PySem.W.Frag} {sp : PySem.W.Frag → Sp} {x : Str}
    (hn : l.most = some n) (hn2 : n ≤ sizeLine) (hdf : d.params.defaults = []) (hr : Room k callerA)
    (hY : ∀ (w : World) (h : Heap), YP w h → (K w.params).In h)
    (F : ∀ (w : World) (mg : Str → Option Value) (fa : Addr) (h : Heap), (K w.params).In h → h.Ns mainGlobals mg → mg d.name = some (.ref fa) →
      ∃ fd : FuncData, (∀ (t : Shared) (u : Value), BindsTo t fd ⟨[u], []⟩ [(x, u)]) ∧
        ∀ b0 : Heap, (K w.params).In b0 → b0.Ns mainGlobals mg → FnG l.prog w (K w.params) mg b0 k fa fd [x] (sp (K w.params)))
    (hsp : ∀ (J : PySem.W.Frag) (H : Hp) (a : Addr) (ns : List Int), ns.length ≤ n → Only H → SqL J H a (ns.map V.int) → sp J [.ref a] H (fun v _ => v = .bl true) E0) :
    PySem.W.WalkO q loose XP YP l.row.toRowW d [] (fun f vs => PySem.call f vs) := by
  refine Att.attach_call hn hdf fun w s₀ s₁ mg mb fa o pm cd doc a vs ns G Y ho hd hcd hmg hobj hints hlen hg => ?_
  have inK := hY w _ Y
  obtain ⟨fd, bi, hF⟩ := F w mg fa _ inK G.T.g hmg
  exact lawG inK G.T.g G.T.b G.T.builtins G.T.nolimit hg hobj hints (Nat.le_trans hlen hn2) hr hF bi fun H hO hS => hsp _ H a ns hlen hO hS
def top (i : Nat) : Stmt := PySem.Challenge.pw_dueclocks_k13_latest_begins.main.body.getD i (.Pass ⟨0, 0, 0, 0⟩)
abbrev sWell : Stmt := top 31
abbrev sTake : Stmt := top 32
abbrev sNumber : Stmt := top 33
abbrev sPaces : Stmt := top 35
abbrev sMarks : Stmt := top 36
abbrev sFits : Stmt := top 41
abbrev sLaw : Stmt := top 42
abbrev sIsSpeed : Stmt := top 18
abbrev sChkSpeeds : Stmt := top 19
abbrev sChkChanges : Stmt := top 20
abbrev sInit : Stmt := inClass (top 22) 0
abbrev sWeek : Stmt := inClass (top 22) 1
abbrev sSpeeds : Stmt := inClass (top 22) 2
abbrev sChanges : Stmt := inClass (top 22) 3
abbrev sGet : Stmt := inClass (top 22) 4
abbrev sHas : Stmt := inClass (top 22) 6
abbrev sEq : Stmt := inClass (top 22) 10
abbrev sErr : Stmt := inClass (top 1) 0
abbrev sNear : Stmt := top 37
abbrev sAmount : Stmt := top 12
abbrev sTally : Stmt := top 24
abbrev sWWork : Stmt := top 25
abbrev sWDue : Stmt := top 26
abbrev sMirror : Stmt := top 27
abbrev sDue : Stmt := top 28
abbrev sLatest : Stmt := top 29
abbrev sWeeks : Stmt := top 11
abbrev sMoved : Stmt := inClass (top 22) 9
abbrev sOr : Stmt := inClass (top 22) 7
abbrev sAnd : Stmt := inClass (top 22) 8
abbrev sPairs : Stmt := top 21
abbrev sChanged : Stmt := top 15
abbrev sTotal : Stmt := top 38
abbrev sLoad : Stmt := top 34
abbrev sEdge : Stmt := top 39
abbrev sIsBegin : Stmt := top 40
abbrev sChkWeek : Stmt := top 10
abbrev sBehind : Stmt := top 13
/-! ### the well -/
def Fr (p : Addr) (H H' : Hp) : Prop := ∀ b o, H b = some o → b ≠ p → H' b = some o
theorem Fr.refl (p : Addr) (H : Hp) : Fr p H H := fun _ _ h _ => h
theorem Fr.trans {p : Addr} {H H1 H2 : Hp} (a : Fr p H H1) (b : Fr p H1 H2) : Fr p H H2 := fun c o h g => b c o (a c o h g) g
theorem Fr.of {p : Addr} {H H' : Hp} (a : Same H H') : Fr p H H' := fun c o h _ => a c o h
theorem Fr.at_ {p : Addr} {o : HO} {H : Hp} : Fr p H (upd H p o) := fun b u h g => by
  rw [upd_ne g]
  exact h
theorem Fr.new {p q : Addr} {o : HO} {H : Hp} (h : H q = none) : Fr p H (upd H q o) := fun b u e _ => by
  rw [upd_ne (ne_of_none e h)]
  exact e
theorem Fr.seq {K : PySem.W.Frag} {p a : Addr} {H H' : Hp} {xs : List V} (f : Fr p H H') (g : a ≠ p) (h : SqL K H a xs) : SqL K H' a xs := by
  rcases h with (h | ⟨o, h⟩) | h
  · exact .inl (.inl (f _ _ h g))
  · exact .inl (.inr ⟨o, f _ _ h g⟩)
  · exact .inr h
theorem same_new {H : Hp} {q : Addr} {o : HO} (h : H q = none) : Same H (upd H q o) := fun b u e => by
  rw [upd_ne (ne_of_none e h)]
  exact e
/-- a well at p, from which n or fewer draws were mixed -/
def Well (H : Hp) (p : Addr) (n : Nat) : Prop := ∃ a b c : Int, H p = some (.lst [.int a, .int b, .int c]) ∧ 0 ≤ b ∧ b < 2 ^ 62 ∧ 0 ≤ c ∧ c ≤ n
theorem Well.mono {H : Hp} {p : Addr} {n m : Nat} (h : Well H p n) (g : n ≤ m) : Well H p m := by
  obtain ⟨a, b, c, h1, h2, h3, h4, h5⟩ := h
  exact ⟨a, b, c, h1, h2, h3, h4, by omega⟩
theorem Well.same {H H' : Hp} {p : Addr} {n : Nat} (h : Well H p n) (g : Same H H') : Well H' p n := by
  obtain ⟨a, b, c, h1, h2⟩ := h
  exact ⟨a, b, c, g _ _ h1, h2⟩
theorem Well.new {H : Hp} {p q : Addr} {n : Nat} {o : HO} (h : Well H p n) (g : H q = none) : Well (upd H q o) p n := h.same (same_new g)
theorem Well.upd_ne {H : Hp} {p q : Addr} {n : Nat} {o : HO} (h : Well H p n) (g : p ≠ q) : Well (upd H q o) p n := by
  obtain ⟨a, b, c, h1, h2⟩ := h
  exact ⟨a, b, c, by rw [L2.upd_ne g]; exact h1, h2⟩
theorem Well.ne {H : Hp} {p q : Addr} {n : Nat} (h : Well H p n) (g : H q = none) : p ≠ q := by
  obtain ⟨a, b, c, h1, h2⟩ := h
  exact ne_of_none h1 g
def spTake : Sp := fun vs H Q _ => ∃ (p : Addr) (n : Nat) (m : Int), vs = [.ref p, .int m] ∧ Well H p n ∧ n ≤ 10 ^ 9 ∧ 0 < m ∧ m < 2 ^ 200 ∧
  ∀ (r : Int) (H' : Hp), 0 ≤ r → r < m → Fr p H H' → Well H' p (n + 1) → Q (.int r) H'
theorem spTake_ok {p : Addr} {n : Nat} {m : Int} {H : Hp} {Q : VK} {E : XK} (h : Well H p n) (hn : n ≤ 10 ^ 9) (h0 : 0 < m) (h1 : m < 2 ^ 200)
    (q : ∀ (r : Int) (H' : Hp), 0 ≤ r → r < m → Fr p H H' → Well H' p (n + 1) → Q (.int r) H') : spTake [.ref p, .int m] H Q E := ⟨p, n, m, rfl, h, hn, h0, h1, q⟩
/-- the built-in names are still the built-in ones -/
structure Blt (mg : Str → Option Value) : Prop where
  int : mg "int" = none
  len : mg "len" = none
  abs : mg "abs" = none
  max : mg "max" = none
  min : mg "min" = none
  range : mg "range" = none
  repr : mg "repr" = none
  list : mg "list" = none
theorem set0 (a b c v : V) : ([a, b, c] : List V).set 0 v = [v, b, c] := rfl
theorem set2 (a b c v : V) : ([a, b, c] : List V).set 2 v = [a, b, v] := rfl
section
variable {P : Program} {w : World} {K : PySem.W.Frag} {mg : Str → Option Value} {base : Heap}
theorem scTake : FnScope ["well", "many", "taken", "mixed"] ["well", "many"] (defScope sTake) := ⟨rfl, rfl, rfl, by decide +kernel, rfl, by decide +kernel, by decide +kernel⟩
theorem ok_take {f : Addr} {fd : FuncData} (F : Fun K "_law_take" "_law_take" sTake f fd) (T : Blt mg) : FnOk P w K mg base CX0 1 f fd ["well", "many"] spTake := by
  refine F.ok scTake (fun vs H Q E h => ?_) (fun cdv A outer s H vs Q E hr h => ?_)
  · obtain ⟨p, n, m, rfl, _⟩ := h
    rfl
  · obtain ⟨p, n, m, rfl, ⟨a, b, c, hp, b0, b1, c0, c1⟩, hn, m0, m1, k⟩ := h
    refine ⟨_, pss_cons (ps_if (pt_cmpR op_gt (pe_ix ix_list (pv 0) pe_int (fun _ _ => rfl)) pe_int (nomark _))
      (pss_cons (ps_set (i := 2) scTake.nd rfl (.inl rfl) (pe_op op_mod (pe_callTy call_int1 (by rfl) T.int (by decide +kernel) (pa_cons (pe_ix ix_list (pv 0) pe_int (fun _ _ => rfl)) pa_nil)) (pv 1)))
      (pss_cons (ps_asg (pe_op op_fdivW (pe_ix ix_list (pv 0) pe_int (fun _ _ => rfl)) (pv 1)) (pg_sub (pv 0) pe_int set_list))
      (pss_one (ps_ret (pv 2))))) pss_nil)
      (pss_cons (ps_asg (pe_op op_add (pe_ix ix_list (pv 0) pe_int (fun _ _ => rfl)) pe_int) (pg_sub (pv 0) pe_int set_list))
      (pss_cons (ps_set (i := 3) scTake.nd rfl (.inl rfl) (pe_op op_add (pe_op op_pow (pe_op op_add (pe_ix ix_list (pv 0) pe_int (fun _ _ => rfl)) (pe_op op_mul pe_int (pe_ix ix_list (pv 0) pe_int (fun _ _ => rfl)))) pe_int) (pe_op op_mul pe_int (pe_ix ix_list (pv 0) pe_int (fun _ _ => rfl)))))
      (pss_cons (ps_set (i := 3) scTake.nd rfl (.inl rfl) (pe_op op_add (pe_op op_mod (pe_callTy call_int1 (by rfl) T.int (by decide +kernel) (pa_cons (pv 3) pa_nil)) pe_int) (pe_op op_mul pe_int (pe_ix ix_list (pv 0) pe_int (fun _ _ => rfl)))))
      (pss_cons (ps_set (i := 3) scTake.nd rfl (.inl rfl) (pe_op op_mod (pe_callTy call_int1 (by rfl) T.int (by decide +kernel) (pa_cons (pe_op op_pow (pv 3) pe_int) pa_nil)) pe_int))
      (pss_one (ps_ret (pe_op op_mod (pe_callTy call_int1 (by rfl) T.int (by decide +kernel) (pa_cons (pe_op op_fdiv (pv 3) pe_int) pa_nil)) (pv 1)))))))), ?_⟩
    refine ⟨_, rfl, p, _, 0, _, rfl, rfl, SqL.of hp, atI_nat (j := 0) rfl, _, _, rfl, rfl, _, rfl, ite2 (fun hw => ?_) (fun hw => ?_)⟩
    · refine ⟨_, rfl, p, _, 0, _, rfl, rfl, SqL.of hp, atI_nat (j := 0) rfl, .inl ⟨_, rfl, _, rfl, a, m, rfl, rfl, m0, ?_⟩⟩
      refine ⟨_, rfl, p, _, 0, _, rfl, rfl, SqL.of hp, atI_nat (j := 0) rfl, _, rfl, a, m, rfl, rfl, wide_div (b := 200) m0 (by omega) (by decide) (by decide), ?_⟩
      refine ⟨_, rfl, p, _, 0, 0, rfl, rfl, hp, rfl, ?_⟩
      refine ⟨_, rfl, k _ _ (Int.emod_nonneg _ (by omega)) (Int.emod_lt_of_pos _ m0) Fr.at_ ⟨a / m, b, c, upd_same, b0, b1, c0, by omega⟩⟩
    · refine ⟨_, rfl, p, _, 2, _, rfl, rfl, SqL.of hp, atI_nat (j := 2) rfl, _, _, rfl, rfl, ?_⟩
      refine ⟨_, rfl, p, _, 2, 2, rfl, rfl, hp, rfl, ?_⟩
      rw [set2]
      generalize hH : upd H p (.lst [.int a, .int b, .int (c + 1)]) = H1
      have h1 : H1 p = some (.lst [.int a, .int b, .int (c + 1)]) := by rw [← hH]; exact upd_same
      have e1 : (0 : Int) ≤ 6700417 * (c + 1) := by omega
      refine ⟨_, rfl, p, _, 1, _, rfl, rfl, SqL.of h1, atI_nat (j := 1) rfl, _, rfl, p, _, 2, _, rfl, rfl, SqL.of h1, atI_nat (j := 2) rfl, _, _, rfl, rfl, .inl ⟨by decide, by decide⟩, _, _, rfl, rfl, _, _, rfl, rfl, ⟨by decide, by decide, by omega⟩,
        _, rfl, p, _, 2, _, rfl, rfl, SqL.of h1, atI_nat (j := 2) rfl, _, _, rfl, rfl, .inl ⟨by decide, by decide⟩, _, _, rfl, rfl, ?_⟩
      refine ⟨_, rfl, .inl ⟨_, rfl, _, _, rfl, rfl, (by show (0 : Int) < 2305843009213693951; decide), _, rfl, p, _, 2, _, rfl, rfl, SqL.of h1, atI_nat (j := 2) rfl, _, _, rfl, rfl, .inl ⟨by decide, by decide⟩, _, _, rfl, rfl, ?_⟩⟩
      generalize hx : ((b + 6700417 * (c + 1)) ^ (3 : Int).toNat + 97 * (c + 1)) % 2305843009213693951 = x
      have x0 : 0 ≤ x := by rw [← hx]; exact Int.emod_nonneg _ (by decide)
      have x1 : x < 2305843009213693951 := by rw [← hx]; exact Int.emod_lt_of_pos _ (by decide)
      refine ⟨_, rfl, _, _, rfl, rfl, ⟨by decide, by decide, by omega⟩, .inl ⟨_, rfl, _, _, rfl, rfl, (by show (0 : Int) < 618970019642690137449562111; decide), ?_⟩⟩
      refine ⟨_, rfl, _, _, rfl, rfl, ⟨by decide, by decide⟩, .inl ⟨_, rfl, _, rfl, _, _, rfl, rfl, m0, ?_⟩⟩
      refine k _ _ (Int.emod_nonneg _ (by omega)) (Int.emod_lt_of_pos _ m0) ?_ ⟨a, b, c + 1, h1, b0, b1, by omega, by omega⟩
      rw [← hH]
      exact Fr.at_
end

/-! ### the draws of a law -/
theorem atI_ints {xs : List Int} {i : Int} (h0 : 0 ≤ i) (h1 : i < xs.length) : ∃ v, v ∈ xs ∧ xs[i.toNat]? = some v ∧ atI (xs.map V.int) i = some (.int v) := by
  obtain ⟨j, rfl⟩ : ∃ j : Nat, i = (j : Int) := ⟨i.toNat, by omega⟩
  have hj : j < xs.length := by omega
  refine ⟨xs[j], List.getElem_mem hj, by simp [hj], atI_nat (j := j) ?_⟩
  rw [List.getElem?_map, List.getElem?_eq_getElem hj]
  rfl
def spWell (K : PySem.W.Frag) : Sp := fun vs H Q _ => ∃ (a : Addr) (ns : List Int) (i : Int), vs = [.ref a, .int i] ∧ SqL K H a (ns.map V.int) ∧ ns.length ≤ 63 ∧ 0 ≤ i ∧ i ≤ 63 ∧
  ∀ (p : Addr) (H' : Hp), H p = none → Same H H' → Well H' p 0 → Q (.ref p) H'
def spNumber : Sp := fun vs H Q _ => ∃ (p : Addr) (n : Nat), vs = [.ref p] ∧ Well H p n ∧ n ≤ 10 ^ 8 ∧
  ∀ (r : Int) (H' : Hp), -10 ^ 30 < r → r < 10 ^ 30 → Fr p H H' → Well H' p (n + 4) → Q (.int r) H'
/-- a list of speeds that a calendar may have -/
structure Paces (xs : List Int) : Prop where
  lo : ∀ v ∈ xs, 0 ≤ v ∧ v ≤ 3
  pos : ∃ v ∈ xs, v ≠ 0
  len0 : 0 < xs.length
  len1 : xs.length ≤ 12
def spPaces : Sp := fun vs H Q _ => ∃ (p : Addr) (n : Nat) (z : Int), vs = [.ref p, .int z] ∧ Well H p n ∧ n ≤ 10 ^ 8 ∧ 1 ≤ z ∧ z ≤ 12 ∧
  ∀ (q : Addr) (xs : List Int) (H' : Hp), Paces xs → (xs.length : Int) = z → H q = none → q ≠ p → H' q = some (.lst (xs.map V.int)) → Fr p H H' → Well H' p (n + 20) → Q (.ref q) H'
section
variable {P : Program} {w : World} {K : PySem.W.Frag} {mg : Str → Option Value} {base : Heap}
theorem scWell : FnScope ["script", "place", "cell", "seed"] ["script", "place"] (defScope sWell) := ⟨rfl, rfl, rfl, by decide +kernel, rfl, by decide +kernel, by decide +kernel⟩
theorem ok_well {f : Addr} {fd : FuncData} (F : Fun K "_law_well" "_law_well" sWell f fd) (T : Blt mg) : FnOk P w K mg base CX0 1 f fd ["script", "place"] (spWell K) := by
  refine F.ok scWell (fun vs H Q E h => ?_) (fun cdv A outer s H vs Q E hr h => ?_)
  · obtain ⟨a, ns, i, rfl, _⟩ := h
    rfl
  · obtain ⟨a, ns, i, rfl, hS, hl, i0, i1, k⟩ := h
    refine ⟨_, pss_cons (ps_set (i := 2) scWell.nd rfl (.inl rfl) pe_int)
      (C8.pss_cut (ps_if (pt_cmpR op_lt (pv 1) (pe_callB call_len_seq (by rfl) T.len PySem.boot_len (pa_cons (pv 0) pa_nil)) (nomark _))
        (pss_one (ps_set (i := 2) scWell.nd rfl (.inl rfl) (pe_ix ix_list (pv 0) (pv 1) (fun _ _ => rfl)))) pss_nil)
      (pss_cons (ps_set (i := 3) scWell.nd rfl (.inl rfl) (pe_op op_mod (pe_callTy call_int1 (by rfl) T.int (by decide +kernel) (pa_cons (pe_op op_add (pe_op op_mul (pe_callB call_abs (by rfl) T.abs (by decide +kernel) (pa_cons (pv 2) pa_nil)) pe_int) (pe_callTy call_int1 (by rfl) T.int (by decide +kernel) (pa_cons (pe_cmpR op_lt (pv 2) pe_int (nomark _)) pa_nil))) pa_nil)) pe_int))
      (pss_one (ps_ret (pe_lst (pa_cons (pe_op op_mul (pv 2) (pe_callTy call_int1 (by rfl) T.int (by decide +kernel) (pa_cons (pe_cmpR op_ge (pv 2) (pe_op op_pow pe_int pe_int) (nomark _)) pa_nil))) (pa_cons (pe_op op_add (pv 3) (pe_op op_mul pe_int (pv 1))) (pa_cons pe_int pa_nil)))))))), ?_⟩
    refine ⟨fun σ H1 => H1 = H ∧ ∃ z : Int, σ = [some (.ref a), some (.int i), some (.int z), none], ?_, ?_⟩
    · refine ⟨_, rfl, _, rfl, a, _, rfl, .inl hS, _, _, rfl, rfl, _, rfl, ite2 (fun hc => ?_) (fun hc => ?_)⟩
      · have hi : i < ns.length := by
          have := of_decide_eq_true hc
          rw [List.length_map] at this
          exact this
        obtain ⟨v, hv, hv2, e⟩ := atI_ints i0 hi
        exact ⟨_, rfl, _, rfl, a, _, i, _, rfl, rfl, hS, e, rfl, v, rfl⟩
      · exact ⟨rfl, 0, rfl⟩
    · rintro σ H1 ⟨rfl, z, rfl⟩
      refine ⟨_, rfl, _, rfl, _, _, rfl, rfl, .inr ⟨by decide, by decide⟩, _, rfl, _, _, rfl, rfl, .inr ⟨_, rfl, _, _, rfl, rfl, .inl ⟨_, rfl, _, _, rfl, rfl, (by show (0 : Int) < 2305843009213693951; decide), ?_⟩⟩⟩
      generalize hx : ((if z < 0 then -z else z) * 2 + (if decide (z < 0) = true then (1 : Int) else 0)) % 2305843009213693951 = x
      have x0 : 0 ≤ x := by rw [← hx]; exact Int.emod_nonneg _ (by decide)
      have x1 : x < 2305843009213693951 := by rw [← hx]; exact Int.emod_lt_of_pos _ (by decide)
      refine ⟨_, rfl, _, rfl, _, _, rfl, rfl, ⟨by decide, by decide, by decide⟩, _, _, rfl, rfl, .inr ⟨_, rfl, _, _, rfl, rfl, .inr ?_, ?_⟩⟩
      · split <;> exact ⟨by decide, by decide⟩
      refine ⟨_, rfl, _, rfl, _, _, rfl, rfl, .inl ⟨by decide, by decide⟩, _, _, rfl, rfl, (by show 3 ≤ sizeLine; decide), fun p hp => ?_⟩
      exact k p _ hp (same_new hp) ⟨_, _, _, upd_same, by omega, by omega, by decide, by decide⟩
theorem scNumber : FnScope ["well", "way", "found"] ["well"] (defScope sNumber) := ⟨rfl, rfl, rfl, by decide +kernel, rfl, by decide +kernel, by decide +kernel⟩
/-- what a law calls to draw -/
structure Tk (P : Program) (w : World) (K : PySem.W.Frag) (mg : Str → Option Value) (base : Heap) (fT : Addr) (fdT : FuncData) : Prop where
  ok : FnOk P w K mg base CX0 1 fT fdT ["well", "many"] spTake
  at_ : mg "_law_take" = some (.ref fT)
  kp : PySem.W.keepIn K (.ref fT) = true
  bi : Binds K fdT ["well", "many"] []
theorem ok_number {f fT : Addr} {fd fdT : FuncData} (F : Fun K "_law_number" "_law_number" sNumber f fd) (T : Blt mg) (L : Tk P w K mg base fT fdT) : FnOk P w K mg base CX0 2 f fd ["well"] spNumber := by
  refine F.ok scNumber (fun vs H Q E h => ?_) (fun cdv A outer s H vs Q E hr h => ?_)
  · obtain ⟨p, n, rfl, _⟩ := h
    rfl
  · obtain ⟨p, n, rfl, hW, hn, k⟩ := h
    refine ⟨_, pss_cons (ps_set (i := 1) scNumber.nd rfl (.inl rfl) (pe_call L.ok hr (by rfl) L.at_ L.kp L.bi .nil pass0 (pa_cons (pv 0) (pa_cons pe_int pa_nil))))
      (pss_cons (ps_set (i := 2) scNumber.nd rfl (.inl rfl) (pe_call L.ok hr (by rfl) L.at_ L.kp L.bi .nil pass0 (pa_cons (pv 0) (pa_cons (pe_ix ix_list (pe_lst (pa_cons pe_int (pa_cons pe_int (pa_cons pe_int (pa_cons (pe_op op_pow pe_int pe_int) pa_nil))))) (pv 1) (fun _ _ => rfl)) pa_nil))))
      (C8.pss_cut (ps_if (pt_cmpR op_eq (pv 1) pe_int (nomark _))
        (pss_one (ps_set (i := 2) scNumber.nd rfl (.inl rfl) (pe_op op_add (pe_op op_mul (pv 2) (pe_op op_pow pe_int pe_int)) (pe_call L.ok hr (by rfl) L.at_ L.kp L.bi .nil pass0 (pa_cons (pv 0) (pa_cons (pe_op op_pow pe_int pe_int) pa_nil)))))) pss_nil)
      (pss_one (ps_ret (pe_op op_mul (pv 2) (pe_op op_sub pe_int (pe_op op_mul pe_int (pe_call L.ok hr (by rfl) L.at_ L.kp L.bi .nil pass0 (pa_cons (pv 0) (pa_cons pe_int pa_nil)))))))))), ?_⟩
    refine ⟨_, rfl, ⟨_, _, _, rfl, hW, (by omega), (by decide), (by decide), fun r H1 r0 r1 f1 w1 => ?_⟩⟩
    refine ⟨_, rfl, _, _, rfl, rfl, ⟨by decide, by decide, by decide⟩, (by show 4 ≤ sizeLine; decide), fun l hl => ⟨_, rfl, ?_⟩⟩
    have w1' := w1.new (o := .lst [.int 13, .int 60, .int 1000, .int (10 ^ (15 : Int).toNat)]) hl
    obtain ⟨v, hv, hv2, he⟩ := atI_ints (xs := [13, 60, 1000, 10 ^ (15 : Int).toNat]) r0 r1
    have v0 : 0 < v ∧ v ≤ 10 ^ 15 := by
      simp only [List.mem_cons, List.not_mem_nil, or_false] at hv
      rcases hv with rfl | rfl | rfl | rfl <;> decide
    refine ⟨l, _, r, _, rfl, rfl, SqL.of upd_same, he, ⟨_, _, _, rfl, w1', (by omega), v0.1, (by omega), fun x H2 x0 x1 f2 w2 => ?_⟩⟩
    have f02 : Fr p H H2 := (f1.trans (Fr.new hl)).trans f2
    refine ⟨fun σ H3 => ∃ z : Int, σ = [some (.ref p), some (.int r), some (.int z)] ∧ 0 ≤ z ∧ z < 10 ^ 30 ∧ Fr p H H3 ∧ Well H3 p (n + 3), ?_, ?_⟩
    · refine ⟨_, rfl, rfl, _, rfl, ite2 (fun hc => ?_) (fun hc => ?_)⟩
      · refine ⟨_, rfl, _, _, rfl, rfl, ⟨by decide, by decide, by decide⟩, _, _, rfl, rfl, .inl ⟨by omega, by omega⟩, _, rfl, _, _, rfl, rfl, ⟨by decide, by decide, by decide⟩, ?_⟩
        refine ⟨_, _, _, rfl, w2, (by omega), (by decide), (by decide), fun y H3 y0 y1 f3 w3 => ⟨_, _, rfl, rfl, ?_⟩⟩
        refine ⟨_, rfl, ?_, ?_, f02.trans f3, w3⟩
        · have : (0 : Int) ≤ x * 10 ^ (15 : Int).toNat := Int.mul_nonneg x0 (by decide)
          omega
        · have e : (10 : Int) ^ (15 : Int).toNat = 10 ^ 15 := by decide
          rw [e] at y1 ⊢
          omega
      · exact ⟨x, rfl, x0, by omega, f02, w2.mono (by omega)⟩
    · rintro σ H3 ⟨z, rfl, z0, z1, f3, w3⟩
      refine ⟨_, rfl, _, rfl, ⟨_, _, _, rfl, w3, (by omega), (by decide), (by decide), fun y H4 y0 y1 f4 w4 => ?_⟩⟩
      refine ⟨_, _, rfl, rfl, .inl ⟨by decide, by decide⟩, _, _, rfl, rfl, _, _, rfl, rfl, .inr ⟨by omega, by omega⟩, ?_⟩
      have hy : y = 0 ∨ y = 1 := by omega
      refine k _ H4 ?_ ?_ (f3.trans f4) w4
      · rcases hy with rfl | rfl <;> omega
      · rcases hy with rfl | rfl <;> omega
end

theorem Fr.put {p q : Addr} {o : HO} {H J : Hp} (h : H q = none) (f : Fr p H J) : Fr p H (upd J q o) := fun b u e g => by
  rw [upd_ne (fun z => by rw [z, h] at e; cases e)]
  exact f b u e g
theorem rep_ints (k : Nat) (x : Int) : (List.replicate k [V.int x]).flatten = (List.replicate k x).map V.int := by
  induction k with
  | zero => rfl
  | succ k ih =>
    rw [List.replicate_succ, List.flatten_cons, ih, List.replicate_succ, List.map_cons]
    rfl
section
variable {P : Program} {w : World} {K : PySem.W.Frag} {mg : Str → Option Value} {base : Heap}
theorem scPaces : FnScope ["well", "size", "way", "found", "spot", "turn"] ["well", "size"] (defScope sPaces) := ⟨rfl, rfl, rfl, by decide +kernel, rfl, by decide +kernel, by decide +kernel⟩
/-- what stands between the statements of _law_paces -/
structure PMid (H : Hp) (p : Addr) (z : Int) (m : Nat) (q : Addr) (xs : List Int) (H1 : Hp) : Prop where
  new : H q = none
  ne : q ≠ p
  at_ : H1 q = some (.lst (xs.map V.int))
  len : (xs.length : Int) = z
  lo : ∀ v ∈ xs, 0 ≤ v ∧ v ≤ 3
  fr : Fr p H H1
  well : Well H1 p m
theorem ok_paces {f fT : Addr} {fd fdT : FuncData} (F : Fun K "_law_paces" "_law_paces" sPaces f fd) (T : Blt mg) (L : Tk P w K mg base fT fdT) : FnOk P w K mg base CX0 2 f fd ["well", "size"] spPaces := by
  refine F.ok scPaces (fun vs H Q E h => ?_) (fun cdv A outer s H vs Q E hr h => ?_)
  · obtain ⟨p, n, z, rfl, _⟩ := h
    rfl
  · obtain ⟨p, n, z, rfl, hW, hn, z0, z1, k⟩ := h
    refine ⟨_, pss_cons (ps_set (i := 2) scPaces.nd rfl (Or.inr rfl) (pe_call L.ok hr (by rfl) L.at_ L.kp L.bi .nil pass0 (pa_cons (pv 0) (pa_cons pe_int pa_nil))))
      (pss_cons (ps_set (i := 3) scPaces.nd rfl (.inl rfl) (pe_op op_rep (pe_lst (pa_cons pe_int pa_nil)) (pv 1)))
      (C8.pss_cut (ps_if (pt_cmpR op_lt (pv 2) pe_int (nomark _))
        (pss_one (ps_setLc (i := 3) (own := [("turn", 5)]) (g := gName 5) (tt := tYes) rfl scPaces.nd rfl rfl (sw_true rfl rfl rfl (by decide +kernel)) (pi_range1 (by rfl) T.range (pa_cons (pv 1) pa_nil))
          (blkOk_by (N := ["well", "size", "way", "found", "spot", "turn"]) (sc := defScope sPaces) (by decide +kernel)) (fun _ _ _ _ _ => pg_name (i := 5) scPaces.nd rfl (Or.inl rfl)) (fun _ _ _ _ _ => pts_nil)
          (fun _ _ _ _ _ => pe_call L.ok hr (by rfl) L.at_ L.kp L.bi .nil pass0 (pa_cons (pv 0) (pa_cons (pe_op op_sub pe_int (pe_op op_mul pe_int (pv 2))) pa_nil))))) pss_nil)
      (C8.pss_cut (ps_if (pt_cmpR op_eq (pv 2) pe_int (nomark _))
        (pss_one (ps_set (i := 3) scPaces.nd rfl (.inl rfl) (pe_op op_rep (pe_lst (pa_cons (pe_op op_add pe_int (pe_call L.ok hr (by rfl) L.at_ L.kp L.bi .nil pass0 (pa_cons (pv 0) (pa_cons pe_int pa_nil)))) pa_nil)) (pv 1)))) pss_nil)
      (C8.pss_cut (ps_if (pt_cmpR op_eq (pe_callB (cr_max rfl) (by rfl) T.max (by decide +kernel) (pa_cons (pv 3) pa_nil)) pe_int (nomark _))
        (pss_cons (ps_set (i := 4) scPaces.nd rfl (.inl rfl) (pe_call L.ok hr (by rfl) L.at_ L.kp L.bi .nil pass0 (pa_cons (pv 0) (pa_cons (pv 1) pa_nil))))
        (pss_one (ps_asg (pe_op op_add pe_int (pe_call L.ok hr (by rfl) L.at_ L.kp L.bi .nil pass0 (pa_cons (pv 0) (pa_cons pe_int pa_nil)))) (pg_sub (pv 3) (pv 4) set_list)))) pss_nil)
      (pss_one (ps_ret (pv 3))))))), ?_⟩
    refine ⟨_, rfl, ⟨_, _, _, rfl, hW, (by omega), (by decide), (by decide), fun r H1 r0 r1 f1 w1 => ?_⟩⟩
    refine ⟨(by show 1 ≤ sizeLine; decide), fun l hl => ⟨_, rfl, l, z, _, rfl, rfl, upd_same, by omega, by omega, by show 1 * z.toNat ≤ sizeLine; rw [sizeLine_eq]; omega, fun q hq => ?_⟩⟩
    rw [rep_ints]
    have hq1 : H1 q = none := by
      have ne : q ≠ l := fun e => by rw [e, upd_same] at hq; cases hq
      rw [upd_ne ne] at hq
      exact hq
    have free : ∀ {c : Addr} {J : Hp}, Fr p H J → Well J p (n + 1) → J c = none → H c = none ∧ c ≠ p := fun {c J} g g2 e => by
      refine ⟨?_, (g2.ne e).symm⟩
      cases e2 : H c with
      | none => rfl
      | some o =>
        rw [g c o e2 (g2.ne e).symm] at e
        cases e
    have hqH := free f1 w1 hq1
    have wL := (w1.new (o := .lst [V.int 0]) hl).new (o := .lst ((List.replicate z.toNat 0).map V.int)) hq
    have fL : Fr p H _ := (f1.trans (Fr.new (o := .lst [V.int 0]) hl)).trans (Fr.new (o := .lst ((List.replicate z.toNat 0).map V.int)) hq)
    have base0 : PMid H p z (n + 1) q (List.replicate z.toNat 0) (upd (upd H1 l (.lst [V.int 0])) q (.lst ((List.replicate z.toNat 0).map V.int))) :=
      ⟨hqH.1, hqH.2, upd_same, by rw [List.length_replicate]; omega, fun v hv => by rw [List.eq_of_mem_replicate hv]; exact ⟨by decide, by decide⟩, fL, wL⟩
    generalize upd (upd H1 l (.lst [V.int 0])) q (.lst ((List.replicate z.toNat 0).map V.int)) = HL at base0
    refine ⟨fun σ J => ∃ (q : Addr) (xs : List Int), σ = [some (.ref p), some (.int z), some (.int r), some (.ref q), none, none] ∧ PMid H p z (n + 13) q xs J, ?_, ?_⟩
    · refine ⟨_, rfl, _, _, rfl, rfl, _, rfl, ite2 (fun hc => ?_) (fun hc => ?_)⟩
      · have hr2 : r < 2 := of_decide_eq_true hc
        refine ⟨_, rfl, z, rfl, by omega, by omega, fun D hD => ?_⟩
        have hDn : D ≠ p := (base0.well.ne hD).symm
        have hDH := free base0.fr base0.well hD
        refine lc_range (lo := 0) (n := z.toNat) (fun i J => ∃ xs : List Int, J D = some (.lst (xs.map V.int)) ∧ xs.length = i ∧ (∀ v ∈ xs, 0 ≤ v ∧ v ≤ 3) ∧ Fr p H J ∧ Well J p (n + 1 + i))
          ⟨[], upd_same, rfl, fun v hv => absurd hv List.not_mem_nil, base0.fr.trans (Fr.new hD), base0.well.new hD⟩ ?_ ?_
        · rintro i J hi ⟨xs, hx, xl, xr, xf, xw⟩
          refine ⟨rfl, _, rfl, _, rfl, _, _, rfl, rfl, .inl ⟨by decide, by decide⟩, _, _, rfl, rfl, ⟨_, _, _, rfl, xw, (by omega), (by omega), (by omega), fun y J2 y0 y1 f2 w2 => ?_⟩⟩
          have hx2 := f2 _ _ hx hDn
          refine ⟨_, hx2, by rw [List.length_map]; exact small1000 (by omega), xs ++ [y], ?_, by simp [xl], ?_, Fr.put hDH.1 (xf.trans f2), (w2.upd_ne hDn.symm).mono (by omega)⟩
          · rw [upd_same, List.map_append]
            rfl
          · intro v hv
            rcases List.mem_append.mp hv with g | g
            · exact xr v g
            · rw [List.mem_singleton.mp g]
              exact ⟨y0, by omega⟩
        · rintro J ⟨xs, hx, xl, xr, xf, xw⟩
          exact ⟨D, xs, rfl, hDH.1, hDH.2, hx, by omega, xr, xf, xw.mono (by omega)⟩
      · exact ⟨q, _, rfl, base0.new, base0.ne, base0.at_, base0.len, base0.lo, base0.fr, base0.well.mono (by omega)⟩
    · rintro σ J ⟨q, xs, rfl, M⟩
      refine ⟨fun σ J => ∃ (q : Addr) (xs : List Int), σ = [some (.ref p), some (.int z), some (.int r), some (.ref q), none, none] ∧ PMid H p z (n + 14) q xs J, ?_, ?_⟩
      · refine ⟨_, rfl, rfl, _, rfl, ite2 (fun hc => ?_) (fun hc => ?_)⟩
        · refine ⟨_, rfl, ⟨_, _, _, rfl, M.well, (by omega), (by decide), (by decide), fun y J2 y0 y1 f2 w2 => ⟨_, _, rfl, rfl, (by show 1 ≤ sizeLine; decide), fun l hl => ?_⟩⟩⟩
          refine ⟨_, rfl, l, z, _, rfl, rfl, upd_same, by omega, by omega, by show 1 * z.toNat ≤ sizeLine; rw [sizeLine_eq]; omega, fun D hD => ?_⟩
          rw [rep_ints]
          have hD2 : J2 D = none := by
            have ne : D ≠ l := fun e => by rw [e, upd_same] at hD; cases hD
            rw [upd_ne ne] at hD
            exact hD
          have g2 := M.fr.trans f2
          refine ⟨D, _, rfl, ?_, (w2.ne hD2).symm, upd_same, by rw [List.length_replicate]; omega, fun v hv => by rw [List.eq_of_mem_replicate hv]; omega, (g2.trans (Fr.new hl)).trans (Fr.new hD), (w2.new hl).new hD⟩
          cases e2 : H D with
          | none => rfl
          | some o =>
            rw [g2 D o e2 (w2.ne hD2).symm] at hD2
            cases hD2
        · exact ⟨q, xs, rfl, M.new, M.ne, M.at_, M.len, M.lo, M.fr, M.well.mono (by omega)⟩
      · rintro σ J ⟨q, xs, rfl, M⟩
        have xl := M.len
        refine ⟨fun σ J => ∃ (q : Addr) (xs : List Int) (y4 : Option V), σ = [some (.ref p), some (.int z), some (.int r), some (.ref q), y4, none] ∧ PMid H p z (n + 20) q xs J ∧ ∃ v ∈ xs, v ≠ 0, ?_, ?_⟩
        · refine ⟨_, rfl, q, xs, rfl, SqL.of M.at_, by omega, fun m hm hmax => ⟨rfl, _, rfl, ite2 (fun hc => ?_) (fun hc => ?_)⟩⟩
          · refine ⟨_, rfl, _, rfl, ⟨_, _, _, rfl, M.well, (by omega), (by omega), (by omega), fun y J2 y0 y1 f2 w2 => ?_⟩⟩
            refine ⟨_, rfl, ⟨_, _, _, rfl, w2, (by omega), (by decide), (by decide), fun x J3 x0 x1 f3 w3 => ⟨_, _, rfl, rfl, ?_⟩⟩⟩
            have h3 := f3 _ _ (f2 _ _ M.at_ M.ne) M.ne
            have hj : ixN (xs.map V.int).length y = some y.toNat := by
              unfold ixN
              rw [if_pos y0, if_pos (by rw [List.length_map]; omega)]
            refine ⟨_, rfl, _, rfl, q, _, y, y.toNat, rfl, rfl, h3, hj, ?_⟩
            refine ⟨q, xs.set y.toNat (1 + x), _, rfl, ⟨M.new, M.ne, ?_, by rw [List.length_set]; exact xl, fun v hv => ?_, Fr.put M.new ((M.fr.trans f2).trans f3), (w3.upd_ne M.ne.symm).mono (by omega)⟩, 1 + x, ?_, by omega⟩
            · rw [upd_same, List.map_set]
            · rcases List.mem_or_eq_of_mem_set hv with g | g
              · exact M.lo v g
              · rw [g]
                omega
            · exact List.mem_set (by omega) _
          · refine ⟨q, xs, _, rfl, ⟨M.new, M.ne, M.at_, M.len, M.lo, M.fr, M.well.mono (by omega)⟩, m, hm, fun e => hc ?_⟩
            rw [e]
            exact decide_eq_true rfl
        · rintro σ J ⟨q, xs, y4, rfl, M, hp⟩
          have xl := M.len
          exact ⟨_, rfl, k q xs J ⟨M.lo, hp, by omega, by omega⟩ M.len M.new M.ne M.at_ M.fr M.well⟩
end

/-! ### the changes that a law draws: tuples of a moment and a speed -/
def Tups (H : Hp) : List Addr → List (Int × Int) → Prop
  | [], [] => True
  | t :: ts, m :: ms => H t = some (.tup [.int m.1, .int m.2]) ∧ Tups H ts ms
  | _, _ => False
theorem Tups.len {H : Hp} : ∀ {ts : List Addr} {ms : List (Int × Int)}, Tups H ts ms → ts.length = ms.length
  | [], [], _ => rfl
  | _ :: _, _ :: _, h => by
    rw [List.length_cons, List.length_cons, Tups.len h.2]
theorem Tups.imp {H H' : Hp} : ∀ {ts : List Addr} {ms : List (Int × Int)}, (∀ t xs, H t = some (.tup xs) → H' t = some (.tup xs)) → Tups H ts ms → Tups H' ts ms
  | [], [], _, _ => trivial
  | _ :: _, _ :: _, f, h => ⟨f _ _ h.1, Tups.imp f h.2⟩
theorem Tups.same {H H' : Hp} {ts : List Addr} {ms : List (Int × Int)} (h : Tups H ts ms) (f : Same H H') : Tups H' ts ms := h.imp fun _ _ e => f _ _ e
theorem Tups.fr {H H' : Hp} {p : Addr} {n : Nat} {ts : List Addr} {ms : List (Int × Int)} (h : Tups H ts ms) (w : Well H p n) (f : Fr p H H') : Tups H' ts ms := h.imp fun t xs e => f _ _ e fun z => by
  obtain ⟨a, b, c, g, _⟩ := w
  rw [z, g] at e
  cases e
theorem Tups.put {H : Hp} {q : Addr} {ys : List V} {o : HO} {ts : List Addr} {ms : List (Int × Int)} (h : Tups H ts ms) (g : H q = some (.lst ys)) : Tups (upd H q o) ts ms := h.imp fun t xs e => by
  rw [upd_ne (fun z => by rw [z, g] at e; cases e)]
  exact e
theorem Tups.snoc {H : Hp} {t : Addr} {m : Int × Int} : ∀ {ts : List Addr} {ms : List (Int × Int)}, Tups H ts ms → H t = some (.tup [.int m.1, .int m.2]) → Tups H (ts ++ [t]) (ms ++ [m])
  | [], [], _, g => ⟨g, trivial⟩
  | _ :: _, _ :: _, h, g => ⟨h.1, Tups.snoc h.2 g⟩
theorem Tups.get {H : Hp} : ∀ {ts : List Addr} {ms : List (Int × Int)} {i : Nat} {t : Addr}, Tups H ts ms → ts[i]? = some t → ∃ m, ms[i]? = some m ∧ H t = some (.tup [.int m.1, .int m.2])
  | _ :: _, m :: _, 0, t, h, e => by
    obtain rfl := Option.some.inj e
    exact ⟨m, rfl, h.1⟩
  | _ :: _, _ :: _, i + 1, t, h, e => Tups.get (i := i) h.2 e
/-- what a calendar takes as changes -/
structure Marks (cap : Int) (ms : List (Int × Int)) : Prop where
  asc : ms.Pairwise fun a b => a.1 < b.1
  val : ∀ m ∈ ms, 0 ≤ m.2 ∧ m.2 ≤ 3
  big : ∀ m ∈ ms, -(2 * 10 ^ 30) < m.1 ∧ m.1 < 2 * 10 ^ 30
  len : (ms.length : Int) ≤ cap
def spMarks : Sp := fun vs H Q _ => ∃ (p : Addr) (n : Nat) (z cap : Int), vs = [.ref p, .int z, .int cap] ∧ Well H p n ∧ n ≤ 10 ^ 7 ∧ 1 ≤ z ∧ z ≤ 1000 ∧ 0 ≤ cap ∧ cap ≤ 3 ∧
  ∀ (q : Addr) (ts : List Addr) (ms : List (Int × Int)) (H' : Hp), Marks cap ms → H q = none → q ≠ p → H' q = some (.lst (ts.map V.ref)) → Tups H' ts ms → (∀ t ∈ ts, H t = none) → Fr p H H' → Well H' p (n + 20) → Q (.ref q) H'
/-- _law_number stands at fN -/
structure Nb (P : Program) (w : World) (K : PySem.W.Frag) (mg : Str → Option Value) (base : Heap) (fN : Addr) (fdN : FuncData) : Prop where
  ok : FnOk P w K mg base CX0 2 fN fdN ["well"] spNumber
  at_ : mg "_law_number" = some (.ref fN)
  kp : PySem.W.keepIn K (.ref fN) = true
  bi : Binds K fdN ["well"] []
section
variable {P : Program} {w : World} {K : PySem.W.Frag} {mg : Str → Option Value} {base : Heap}
theorem scMarks : FnScope ["well", "size", "cap", "found", "many", "at", "turn"] ["well", "size", "cap"] (defScope sMarks) := ⟨rfl, rfl, rfl, by decide +kernel, rfl, by decide +kernel, by decide +kernel⟩
theorem free_of {p c : Addr} {n : Nat} {H J : Hp} (f : Fr p H J) (wl : Well J p n) (e : J c = none) : H c = none ∧ c ≠ p := by
  have g := (wl.ne e).symm
  refine ⟨?_, g⟩
  cases e2 : H c with
  | none => rfl
  | some o =>
    rw [f c o e2 g] at e
    cases e
theorem ok_marks {f fT fN : Addr} {fd fdT fdN : FuncData} (F : Fun K "_law_marks" "_law_marks" sMarks f fd) (T : Blt mg) (L : Tk P w K mg base fT fdT) (B : Nb P w K mg base fN fdN) : FnOk P w K mg base CX0 3 f fd ["well", "size", "cap"] spMarks := by
  refine F.ok scMarks (fun vs H Q E h => ?_) (fun cdv A outer s H vs Q E hr h => ?_)
  · obtain ⟨p, n, z, cap, rfl, _⟩ := h
    rfl
  · obtain ⟨p, n, z, cap, rfl, hW, hn, z0, z1, c0, c1, k⟩ := h
    have hr1 : Room 1 _ := hr.mono (by decide)
    refine ⟨_, pss_cons (ps_set (i := 3) scMarks.nd rfl (.inl rfl) (pe_lst pa_nil))
      (pss_cons (ps_set (i := 4) scMarks.nd rfl (.inl rfl) (pe_call L.ok hr1 (by rfl) L.at_ L.kp L.bi .nil pass0 (pa_cons (pv 0) (pa_cons (pe_op op_add (pv 2) pe_int) pa_nil))))
      (pss_cons (ps_set (i := 5) scMarks.nd rfl (.inl rfl) (pe_call B.ok hr (by rfl) B.at_ B.kp B.bi .nil pass0 (pa_cons (pv 0) pa_nil)))
      (pss_cons (ps_for PassesOwn.never rfl (pi_range1 (by rfl) T.range (pa_cons (pv 4) pa_nil)) (pg_name (i := 6) scMarks.nd rfl (.inl rfl))
        (pss_cons (ps_expr (pe_bm PySem.F.plainAttrs_list PySem.F.slot_list_append PySem.F.type_list_append mt_append (pv 3) (pa_cons (pe_tup (pa_cons (pv 5) (pa_cons (pe_call L.ok hr1 (by rfl) L.at_ L.kp L.bi .nil pass0 (pa_cons (pv 0) (pa_cons pe_int pa_nil))) pa_nil))) pa_nil)))
        (pss_one (ps_set (i := 5) scMarks.nd rfl (.inl rfl) (pe_op op_add (pe_op op_add (pv 5) pe_int) (pe_call L.ok hr1 (by rfl) L.at_ L.kp L.bi .nil pass0 (pa_cons (pv 0) (pa_cons (pe_ix ix_list (pe_lst (pa_cons pe_int (pa_cons pe_int (pa_cons (pe_op op_mul pe_int (pv 1)) (pa_cons (pe_op op_pow pe_int pe_int) pa_nil)))))
          (pe_call L.ok hr1 (by rfl) L.at_ L.kp L.bi .nil pass0 (pa_cons (pv 0) (pa_cons pe_int pa_nil))) (fun _ _ => rfl)) pa_nil))))))))
      (pss_one (ps_ret (pv 3)))))), ?_⟩
    refine ⟨Nat.zero_le _, fun q hq => ?_⟩
    have qp : q ≠ p := (hW.ne hq).symm
    refine ⟨_, rfl, _, rfl, _, _, rfl, rfl, ⟨_, _, _, rfl, hW.new hq, (by omega), (by omega), (by omega), fun m H1 m0 m1 f1 w1 => ?_⟩⟩
    refine ⟨_, rfl, ⟨_, _, rfl, w1, by omega, fun a0 H2 a1 a2 f2 w2 => ?_⟩⟩
    have f02 : Fr p H H2 := ((Fr.new hq).trans f1).trans f2
    have q2 : H2 q = some (.lst []) := f2 _ _ (f1 _ _ upd_same qp) qp
    refine ⟨_, rfl, m, rfl, by omega, by omega, for_range (lo := 0) (n := m.toNat) (fun i σ J => ∃ (ts : List Addr) (ms : List (Int × Int)) (a : Int) (y : Option V), σ = [some (.ref p), some (.int z), some (.int cap), some (.ref q), some (.int m), some (.int a), y] ∧
        J q = some (.lst (ts.map V.ref)) ∧ Tups J ts ms ∧ (∀ t ∈ ts, H t = none) ∧ ms.length = i ∧ (ms.Pairwise fun a b => a.1 < b.1) ∧ (∀ v ∈ ms, 0 ≤ v.2 ∧ v.2 ≤ 3) ∧ (∀ v ∈ ms, -10 ^ 30 < v.1 ∧ v.1 < a) ∧ -10 ^ 30 < a ∧ a < 10 ^ 30 + i * (10 ^ 29 + 1) ∧ Fr p H J ∧ Well J p (n + 5 + i * 3))
      ⟨[], [], a0, none, rfl, q2, trivial, fun t ht => absurd ht List.not_mem_nil, rfl, List.Pairwise.nil, fun v hv => absurd hv List.not_mem_nil, fun v hv => absurd hv List.not_mem_nil, a1, by omega, f02, w2.mono (by omega)⟩ ?_ ?_⟩
    · rintro i σ J hi ⟨ts, ms, a, y, rfl, hq3, tp, tn, ml, asc, val, big, b0, b1, fJ, wJ⟩
      have him : (i : Int) < m := by omega
      have ml3 : i ≤ 3 := by omega
      refine ⟨_, rfl, .inl ⟨rfl, _, SqL.of hq3⟩, _, rfl, _, rfl, ⟨_, _, _, rfl, wJ, (by omega), (by decide), (by decide), fun v J2 v0 v1 f2 w2 => ?_⟩⟩
      have hq4 := f2 _ _ hq3 qp
      have tp2 := tp.fr wJ f2
      refine ⟨(by show 2 ≤ sizeLine; decide), fun t ht => ?_⟩
      have tq : q ≠ t := ne_of_none hq4 ht
      have ft := free_of (fJ.trans f2) w2 ht
      have w3 := w2.new (o := .tup [.int a, .int v]) ht
      have hq5 : (upd J2 t (.tup [.int a, .int v])) q = some (.lst (ts.map V.ref)) := by rw [upd_ne tq]; exact hq4
      have tl := tp.len
      refine ⟨q, _, .ref t, rfl, rfl, hq5, by rw [List.length_map]; exact small1000 (by omega), ?_⟩
      have tp3 : Tups (upd (upd J2 t (.tup [.int a, .int v])) q (.lst (ts.map V.ref ++ [.ref t]))) (ts ++ [t]) (ms ++ [(a, v)]) :=
        ((tp2.same (same_new ht)).snoc (m := (a, v)) upd_same).put hq5
      have w4 := w3.upd_ne (o := .lst (ts.map V.ref ++ [.ref t])) qp.symm
      have f4 : Fr p H (upd (upd J2 t (.tup [.int a, .int v])) q (.lst (ts.map V.ref ++ [.ref t]))) := Fr.put (by exact (free_of (Fr.refl p H) hW hq).1) (Fr.put ft.1 (fJ.trans f2))
      have hq6 : (upd (upd J2 t (.tup [.int a, .int v])) q (.lst (ts.map V.ref ++ [.ref t]))) q = some (.lst ((ts ++ [t]).map V.ref)) := by rw [upd_same, List.map_append]; rfl
      generalize upd (upd J2 t (.tup [.int a, .int v])) q (.lst (ts.map V.ref ++ [.ref t])) = J4 at tp3 w4 f4 hq6
      refine ⟨_, rfl, _, _, rfl, rfl, _, rfl, _, rfl, _, _, rfl, rfl, .inl ⟨by decide, by decide⟩, _, _, rfl, rfl, ⟨by decide, by decide, by decide⟩, (by show 4 ≤ sizeLine; decide), fun l hl => ?_⟩
      have w5 := w4.new (o := .lst [.int 1, .int 4, .int (3 * z), .int (10 ^ (29 : Int).toNat)]) hl
      have lp := (w4.ne hl).symm
      refine ⟨_, rfl, ⟨_, _, _, rfl, w5, (by omega), (by decide), (by decide), fun x J6 x0 x1 f6 w6 => ?_⟩⟩
      obtain ⟨d, hd, hd2, he⟩ := atI_ints (xs := [1, 4, 3 * z, 10 ^ (29 : Int).toNat]) x0 x1
      have d0 : 0 < d ∧ d ≤ 10 ^ 29 := by
        have e : (10 : Int) ^ (29 : Int).toNat = 10 ^ 29 := by decide
        rw [e] at hd
        simp only [List.mem_cons, List.not_mem_nil, or_false] at hd
        rcases hd with rfl | rfl | rfl | rfl <;> omega
      refine ⟨l, _, x, _, rfl, rfl, SqL.of (f6 _ _ upd_same lp), he, ⟨_, _, _, rfl, w6, (by omega), d0.1, (by omega), fun u J7 u0 u1 f7 w7 => ?_⟩⟩
      have f47 : Fr p J4 J7 := ((Fr.new hl).trans f6).trans f7
      refine ⟨_, _, rfl, rfl, ts ++ [t], ms ++ [(a, v)], a + 1 + u, _, rfl, f47 _ _ hq6 qp, tp3.fr w4 f47, ?_, by simp [ml], ?_, ?_, ?_, by omega, by omega, f4.trans f47, w7.mono (by omega)⟩
      · intro t' ht'
        rcases List.mem_append.mp ht' with g | g
        · exact tn t' g
        · rw [List.mem_singleton.mp g]
          exact ft.1
      · rw [List.pairwise_append]
        refine ⟨asc, List.pairwise_singleton _ _, fun a1 h1 b1 h2 => ?_⟩
        rw [List.mem_singleton.mp h2]
        exact (big a1 h1).2
      · intro v' hv'
        rcases List.mem_append.mp hv' with g | g
        · exact val v' g
        · rw [List.mem_singleton.mp g]
          exact ⟨v0, by omega⟩
      · intro v' hv'
        rcases List.mem_append.mp hv' with g | g
        · have := big v' g
          omega
        · rw [List.mem_singleton.mp g]
          omega
    · rintro σ J ⟨ts, ms, a, y, rfl, hq3, tp, tn, ml, asc, val, big, b0, b1, fJ, wJ⟩
      have hm : m ≤ cap := by omega
      have ml3 : m.toNat ≤ 3 := by omega
      exact ⟨_, rfl, k q ts ms J ⟨asc, val, fun v hv => by have := big v hv; omega, by omega⟩ (free_of (Fr.refl p H) hW hq).1 qp hq3 tp tn fJ (wJ.mono (by omega))⟩
end

/-! ### the calendar: what its constructor asks, and what it leaves -/
structure Con (mg : Str → Option Value) : Prop where
  gw : ∃ t, mg "GREATEST_WEEK" = some (.int 12 t)
  gs : ∃ t, mg "GREATEST_SPEED" = some (.int 3 t)
  enum : mg "enumerate" = none
def spIsSpeed : Sp := fun vs H Q _ => ∃ v : Int, vs = [.int v] ∧ Q (.bl (decide (0 ≤ v ∧ v ≤ 3))) H
def spChkS (K : PySem.W.Frag) : Sp := fun vs H Q _ => ∃ (a : Addr) (ps : List Int), vs = [.ref a] ∧ SqL K H a (ps.map V.int) ∧ Paces ps ∧ ∀ H', Same H H' → Q .non H'
/-- changes that are right -/
structure Fit (ms : List (Int × Int)) : Prop where
  asc : ms.Pairwise fun a b => a.1 < b.1
  val : ∀ m ∈ ms, 0 ≤ m.2 ∧ m.2 ≤ 3
  len : ms.length ≤ 1000
def spChkC (K : PySem.W.Frag) : Sp := fun vs H Q _ => ∃ (a : Addr) (ts : List Addr) (ms : List (Int × Int)), vs = [.ref a] ∧ SqL K H a (ts.map V.ref) ∧ Tups H ts ms ∧ Fit ms ∧ ∀ H', Same H H' → Q .non H'
/-- whether a change stands behind the one ahead of it -/
def behind (ms : List (Int × Int)) (i : Nat) : Bool := decide (i = 0) || decide ((ms.getD (i - 1) (0, 0)).1 < (ms.getD i (0, 0)).1)
def spChkW : Sp := fun vs H Q _ => ∃ n : Int, vs = [.int n] ∧ 1 ≤ n ∧ n ≤ 12 ∧ Q .non H
def spBehind (K : PySem.W.Frag) : Sp := fun vs H Q _ => ∃ (a : Addr) (ts : List Addr) (ms : List (Int × Int)) (i : Nat), vs = [.ref a, .int (i : Int)] ∧ SqL K H a (ts.map V.ref) ∧ Tups H ts ms ∧ i < ms.length ∧ Q (.bl (behind ms i)) H
/-- a def of the program stands under a name of its module -/
structure At (P : Program) (w : World) (K : PySem.W.Frag) (mg : Str → Option Value) (base : Heap) (k : Nat) (x : Str) (ps : List Str) (sp : Sp) (f : Addr) (fd : FuncData) : Prop where
  ok : FnOk P w K mg base CX0 k f fd ps sp
  at_ : mg x = some (.ref f)
  kp : PySem.W.keepIn K (.ref f) = true
  bi : Binds K fd ps []
section
variable {P : Program} {w : World} {K : PySem.W.Frag} {mg : Str → Option Value} {base : Heap}
theorem scIsSpeed : FnScope ["number"] ["number"] (defScope sIsSpeed) := ⟨rfl, rfl, rfl, by decide +kernel, rfl, by decide +kernel, by decide +kernel⟩
theorem ok_isSpeed {f : Addr} {fd : FuncData} (F : Fun K "is_speed" "is_speed" sIsSpeed f fd) (C : Con mg) : FnOk P w K mg base CX0 1 f fd ["number"] spIsSpeed := by
  refine F.ok scIsSpeed (fun vs H Q E h => ?_) (fun cdv A outer s H vs Q E hr h => ?_)
  · obtain ⟨v, rfl, _⟩ := h
    rfl
  · obtain ⟨v, rfl, q⟩ := h
    obtain ⟨t, ht⟩ := C.gs
    refine ⟨_, pss_one (ps_ret (pe_chain op_le op_le pe_int (pv 0) (pe_glob (v := .int 3) (by rfl) ht ⟨t, rfl⟩))), ?_⟩
    refine ⟨_, rfl, _, _, rfl, rfl, _, rfl, ite2 (fun h => ?_) (fun h => ?_)⟩
    · refine ⟨_, _, rfl, rfl, ?_⟩
      have h0 : 0 ≤ v := of_decide_eq_true h
      have e : decide (0 ≤ v ∧ v ≤ 3) = decide (v ≤ 3) := by
        rw [decide_eq_decide]
        omega
      rw [e] at q
      exact q
    · have h0 : ¬ 0 ≤ v := fun g => h (decide_eq_true g)
      have e : decide (0 ≤ v ∧ v ≤ 3) = false := decide_eq_false fun g => h0 g.1
      rw [e] at q
      exact q
theorem scChkW : FnScope ["number"] ["number"] (defScope sChkWeek) := ⟨rfl, rfl, rfl, by decide +kernel, rfl, by decide +kernel, by decide +kernel⟩
theorem ok_chkW {f : Addr} {fd : FuncData} (F : Fun K "check_week" "check_week" sChkWeek f fd) (C : Con mg) : FnOk P w K mg base CX0 1 f fd ["number"] spChkW := by
  refine F.ok scChkW (fun vs H Q E h => ?_) (fun cdv A outer s H vs Q E hr h => ?_)
  · obtain ⟨n, rfl, _⟩ := h
    rfl
  · obtain ⟨n, rfl, n1, n2, q⟩ := h
    obtain ⟨t, ht⟩ := C.gw
    refine ⟨_, pss_one (ps_if (pt_not (pt_chain op_le op_le pe_int (pv 0) (pe_glob (v := .int 12) (by rfl) ht ⟨t, rfl⟩))) (pss_one ps_never) pss_nil), ?_⟩
    refine ⟨_, rfl, _, _, rfl, rfl, _, rfl, ite2 (fun g => ?_) (fun g => absurd (decide_eq_true (by omega)) g)⟩
    refine ⟨_, _, rfl, rfl, _, rfl, ite2 (fun g2 => absurd g2 ?_) (fun _ => q)⟩
    rw [decide_eq_true (by omega)]
    decide
theorem scBehind : FnScope ["changes", "index"] ["changes", "index"] (defScope sBehind) := ⟨rfl, rfl, rfl, by decide +kernel, rfl, by decide +kernel, by decide +kernel⟩
theorem behind_fit {ms : List (Int × Int)} {i : Nat} (h : ms.Pairwise fun a b => a.1 < b.1) (hi : i < ms.length) : behind ms i = true := by
  unfold behind
  cases i with
  | zero => rfl
  | succ j =>
    have lt := List.pairwise_iff_getElem.mp h j (j + 1) (by omega) hi (by omega)
    simp only [Nat.add_sub_cancel]
    rw [List.getD_eq_getElem?_getD, List.getD_eq_getElem?_getD, List.getElem?_eq_getElem hi, List.getElem?_eq_getElem (by omega : j < ms.length)]
    simp [lt]
theorem ok_behind {f : Addr} {fd : FuncData} (F : Fun K "is_behind" "is_behind" sBehind f fd) : FnOk P w K mg base CX0 1 f fd ["changes", "index"] (spBehind K) := by
  refine F.ok scBehind (fun vs H Q E h => ?_) (fun cdv A outer s H vs Q E hr h => ?_)
  · obtain ⟨a, ts, ms, i, rfl, _⟩ := h
    rfl
  · obtain ⟨a, ts, ms, i, rfl, hS, tp, hi, q⟩ := h
    refine ⟨_, pss_one (ps_ret (pe_or (pe_cmpR op_eq (pv 1) pe_int (nomark _)) (pe_one (pe_cmpR op_lt
      (pe_ix ix_tup (pe_ix ix_list (pv 0) (pe_op op_sub (pv 1) pe_int) (fun _ _ => rfl)) pe_int (fun _ _ => rfl))
      (pe_ix ix_tup (pe_ix ix_list (pv 0) (pv 1) (fun _ _ => rfl)) pe_int (fun _ _ => rfl)) (nomark _))))), ?_⟩
    have tl := tp.len
    have ez : decide (V.int (i : Int) = V.int 0) = decide (i = 0) := by
      rw [decide_eq_decide]
      exact ⟨fun e => by injection e with e; omega, fun e => by rw [e]; rfl⟩
    refine ⟨_, rfl, rfl, _, rfl, ?_⟩
    rw [ez]
    cases i with
    | zero => exact q
    | succ j =>
      have hj : j < ts.length := by omega
      have hj1 : j + 1 < ts.length := by omega
      obtain ⟨m', hm', hm2'⟩ := tp.get (List.getElem?_eq_getElem hj)
      obtain ⟨m, hm, hm2⟩ := tp.get (List.getElem?_eq_getElem hj1)
      have ej : (((j + 1 : Nat) : Int) - 1) = (j : Nat) := by omega
      refine ⟨_, rfl, _, rfl, _, _, rfl, rfl, a, _, _, _, rfl, rfl, hS, at_of (j := j) (v := V.ref ts[j]) ej (by rw [List.getElem?_map, List.getElem?_eq_getElem hj]; rfl), ts[j], _, 0, _, rfl, rfl, SqT.of hm2', atI_nat (j := 0) rfl,
        _, rfl, _, rfl, a, _, _, _, rfl, rfl, hS, atI_nat (j := j + 1) (v := V.ref ts[j + 1]) (by rw [List.getElem?_map, List.getElem?_eq_getElem hj1]; rfl), ts[j + 1], _, 0, _, rfl, rfl, SqT.of hm2, atI_nat (j := 0) rfl, _, _, rfl, rfl, ?_⟩
      have e : behind ms (j + 1) = decide (m'.1 < m.1) := by
        unfold behind
        simp only [Nat.add_sub_cancel]
        rw [List.getD_eq_getElem?_getD, List.getD_eq_getElem?_getD, hm, hm']
        simp
      rw [e] at q
      exact q
theorem scChkS : FnScope ["speeds", "index", "speed"] ["speeds"] (defScope sChkSpeeds) := ⟨rfl, rfl, rfl, by decide +kernel, rfl, by decide +kernel, by decide +kernel⟩
theorem ok_chkS {f fI fW : Addr} {fd fdI fdW : FuncData} (F : Fun K "check_speeds" "check_speeds" sChkSpeeds f fd) (C : Con mg) (T : Blt mg) (I : At P w K mg base 1 "is_speed" ["number"] spIsSpeed fI fdI) (W : At P w K mg base 1 "check_week" ["number"] spChkW fW fdW) :
    FnOk P w K mg base CX0 2 f fd ["speeds"] (spChkS K) := by
  refine F.ok scChkS (fun vs H Q E h => ?_) (fun cdv A outer s H vs Q E hr h => ?_)
  · obtain ⟨a, ps, rfl, _⟩ := h
    rfl
  · obtain ⟨a, ps, rfl, hS, hp, k⟩ := h
    refine ⟨_, pss_cons (ps_expr (pe_call W.ok hr (by rfl) W.at_ W.kp W.bi .nil pass0 (pa_cons (pe_callB call_len_seq (by rfl) T.len PySem.boot_len (pa_cons (pv 0) pa_nil)) pa_nil)))
      (pss_cons (ps_for PassesOwn.never rfl (pi_enum (by rfl) C.enum (pa_cons (pv 0) pa_nil)) (pg_tup rfl (pgs_cons (pg_name (i := 1) scChkS.nd rfl (.inl rfl)) (pgs_cons (pg_name (i := 2) scChkS.nd rfl (.inl rfl)) pgs_nil)))
        (pss_one (ps_if (pt_not (pt_val (pe_call I.ok hr (by rfl) I.at_ I.kp I.bi .nil pass0 (pa_cons (pv 2) pa_nil)))) (pss_one ps_never) pss_nil)))
      (pss_one (ps_if (pt_cmpR op_eq (pe_callB (cr_max rfl) (by rfl) T.max (by decide +kernel) (pa_cons (pv 0) pa_nil)) pe_int (nomark _)) (pss_one ps_never) pss_nil))), ?_⟩
    have l0 := hp.len0
    have l1 := hp.len1
    have hlen : (((ps.map V.int).length : Nat) : Int) = ps.length := by rw [List.length_map]
    refine ⟨_, rfl, a, _, rfl, .inl hS, ⟨_, rfl, by rw [hlen]; omega, by rw [hlen]; omega, ?_⟩⟩
    refine ⟨_, rfl, a, _, rfl, hS, for_it (walk_enum (K := K) (a := a) (xs := ps.map V.int)) (fun i σ J => ∃ y1 y2 : Option V, σ = [some (.ref a), y1, y2] ∧ Same H J) ⟨none, none, rfl, Same.refl H⟩ (fun i σ J _ ⟨_, _, _, g⟩ => g.seq hS) ?_ ?_⟩
    · rintro i x σ J J' hi ⟨y1, y2, rfl, hs⟩ ⟨T', x1, x2, rfl, nT, rfl, e1, e2⟩
      obtain rfl := Option.some.inj e1
      have hi' : i < ps.length := by simpa using hi
      replace e2 : (List.map _ _)[i]? = some x2 := e2
      rw [List.getElem?_map, List.getElem?_eq_getElem hi'] at e2
      obtain rfl := Option.some.inj e2
      refine ⟨T', _, rfl, .inl (.inl upd_same), rfl, _, _, rfl, _, [], rfl, rfl, ?_⟩
      have hv := hp.lo _ (List.getElem_mem hi')
      refine ⟨_, rfl, _, rfl, _, rfl, ?_⟩
      rw [decide_eq_true hv]
      exact ⟨_, _, rfl, hs.trans (same_new nT)⟩
    · rintro σ J ⟨y1, y2, rfl, hs⟩
      refine ⟨_, rfl, a, ps, rfl, hs.seq hS, l0, fun m hm hmax => ⟨rfl, _, rfl, ite2 (fun g => ?_) (fun _ => k J hs)⟩⟩
      have g2 : m = 0 := by
        have := of_decide_eq_true g
        injection this
      obtain ⟨v, hv, v0⟩ := hp.pos
      have := hmax v hv
      have := hp.lo v hv
      omega
theorem scChkC : FnScope ["changes", "index", "_", "speed"] ["changes"] (defScope sChkChanges) := ⟨rfl, rfl, rfl, by decide +kernel, rfl, by decide +kernel, by decide +kernel⟩
theorem ok_chkC {f fI fB : Addr} {fd fdI fdB : FuncData} (F : Fun K "check_changes" "check_changes" sChkChanges f fd) (C : Con mg) (T : Blt mg) (I : At P w K mg base 1 "is_speed" ["number"] spIsSpeed fI fdI) (B : At P w K mg base 1 "is_behind" ["changes", "index"] (spBehind K) fB fdB) :
    FnOk P w K mg base CX0 2 f fd ["changes"] (spChkC K) := by
  refine F.ok scChkC (fun vs H Q E h => ?_) (fun cdv A outer s H vs Q E hr h => ?_)
  · obtain ⟨a, ts, ms, rfl, _⟩ := h
    rfl
  · obtain ⟨a, ts, ms, rfl, hS, tp, fit, k⟩ := h
    refine ⟨_, pss_one (ps_for PassesOwn.never rfl (pi_enum (by rfl) C.enum (pa_cons (pv 0) pa_nil))
        (pg_tup rfl (pgs_cons (pg_name (i := 1) scChkC.nd rfl (.inl rfl)) (pgs_cons (pg_tup rfl (pgs_cons (pg_name (i := 2) scChkC.nd rfl (.inl rfl)) (pgs_cons (pg_name (i := 3) scChkC.nd rfl (.inl rfl)) pgs_nil))) pgs_nil)))
        (pss_one (ps_if (PW.pt (pw_or (pt_not (pt_val (pe_call I.ok hr (by rfl) I.at_ I.kp I.bi .nil pass0 (pa_cons (pv 3) pa_nil))))
          (pw_or1 (pt_not (pt_val (pe_call B.ok hr (by rfl) B.at_ B.kp B.bi .nil pass0 (pa_cons (pv 0) (pa_cons (pv 1) pa_nil)))))))) (pss_one ps_never) pss_nil))), ?_⟩
    have tl := tp.len
    refine ⟨_, rfl, a, _, rfl, hS, for_it (walk_enum (K := K) (a := a) (xs := ts.map V.ref)) (fun i σ J => ∃ y1 y2 y3 : Option V, σ = [some (.ref a), y1, y2, y3] ∧ Same H J) ⟨none, none, none, rfl, Same.refl H⟩ (fun i σ J _ ⟨_, _, _, _, g⟩ => g.seq hS) ?_ ?_⟩
    · rintro i x σ J J' hi ⟨y1, y2, y3, rfl, hs⟩ ⟨T', x1, x2, rfl, nT, rfl, e1, e2⟩
      obtain rfl := Option.some.inj e1
      have hi' : i < ts.length := by simpa using hi
      replace e2 : (List.map _ _)[i]? = some x2 := e2
      rw [List.getElem?_map, List.getElem?_eq_getElem hi'] at e2
      obtain rfl := Option.some.inj e2
      have s2 := hs.trans (same_new (o := .tup [.int (i : Nat), .ref ts[i]]) nT)
      obtain ⟨m, hm, hm2⟩ := (tp.same s2).get (List.getElem?_eq_getElem hi')
      refine ⟨T', _, rfl, .inl (.inl upd_same), rfl, _, _, rfl, _, [], rfl, ⟨_, _, rfl, .inl (.inl hm2), rfl, _, _, rfl, _, [], rfl, rfl, rfl, ?_⟩⟩
      have hv := fit.val _ (List.mem_of_getElem? hm)
      refine ⟨_, rfl, _, rfl, _, rfl, ?_⟩
      rw [decide_eq_true hv]
      refine ⟨_, rfl, _, rfl, ⟨a, ts, ms, i, rfl, s2.seq hS, tp.same s2, by omega, ?_⟩⟩
      rw [behind_fit fit.asc (by omega)]
      exact ⟨_, rfl, _, _, _, rfl, s2⟩
    · rintro σ J ⟨y1, y2, y3, rfl, hs⟩
      exact k J hs
end

/-- a dict comprehension over anything that is walked -/
theorem dc_it {J : It} {n : Nat} {G : Hp → Prop} {Y : Nat → Hp → V → Hp → Prop} (wk : Walk J n G Y) {g : TG} {tt : TT} {tk tv : TE} {vs : List Nat} {σ : L2.St} {H1 : Hp} {D : Addr} {Qd : Hp → Prop}
    (Pv : Nat → Hp → Prop) (h0 : Pv 0 (upd H1 D (.dK []))) (hG : ∀ i H, i ≤ n → Pv i H → G H)
    (hs : ∀ i x H H', i < n → Pv i H → Y i H x H' → g x (wipe σ vs) H' fun σ2 H2 => wipe σ2 vs = wipe σ vs ∧ tt σ2 H2 fun b H3 =>
      if b = true then tk σ2 H3 fun y H4 => tv σ2 H4 fun z H5 => ∃ kvs k, y = kV k ∧ H5 D = some (.dK kvs) ∧ kvs.length < sizeLine ∧
        Pv (i + 1) (upd H5 D (.dK (putK kvs k z))) else Pv (i + 1) H3) (hd : ∀ H, Pv n H → Qd H) :
    ∃ W : Nat → Nat → Hp → Prop, (∃ m, W 0 m (upd H1 D (.dK []))) ∧ ∀ i m H, W i m H →
      (J.stop i H ∧ Qd H) ∨ (J.go i H ∧ ∃ Nx : Hp → Prop, (∀ H', Nx H' → ∃ m', m' < m ∧ W (i + 1) m' H') ∧
        ∀ x H', J.yld i H x H' → g x (wipe σ vs) H' fun σ2 H2 => wipe σ2 vs = wipe σ vs ∧ tt σ2 H2 fun b H3 =>
          if b = true then tk σ2 H3 fun y H4 => tv σ2 H4 fun z H5 => ∃ kvs k, y = kV k ∧ H5 D = some (.dK kvs) ∧
            kvs.length < sizeLine ∧ Nx (upd H5 D (.dK (putK kvs k z))) else Nx H3) := by
  refine ⟨fun i m H => m = n - i ∧ i ≤ n ∧ Pv i H, ⟨n - 0, rfl, Nat.zero_le _, h0⟩, fun i m H hw => ?_⟩
  obtain ⟨rfl, hle, hp⟩ := hw
  rcases Nat.lt_or_ge i n with hlt | hge
  · refine Or.inr ⟨wk.goes i H hlt (hG i H hle hp), Pv (i + 1), fun H' q => ⟨n - (i + 1), by omega, rfl, hlt, q⟩, fun x H' hy => ?_⟩
    exact hs i x H H' hlt hp (wk.yields i H x H' hlt (hG i H hle hp) hy)
  · obtain rfl : i = n := by omega
    exact Or.inl ⟨wk.stops H (hG i H hle hp), hd H hp⟩
/-- the speed of the bare week -/
def paceOf (ps : List Int) (t : Int) : Int := ps.getD (t % ps.length).toNat 0
/-- the changes that change something -/
def realOf (ps : List Int) (ms : List (Int × Int)) : List (Int × Int) := ms.filter fun m => decide (m.2 ≠ paceOf ps m.1)
def kvP (m : Int × Int) : Key × V := (Sum.inl m.1, V.int m.2)
theorem valV_kvP : ∀ (ms : List (Int × Int)) (t : Int), valV (ms.map kvP) (Sum.inl t : Key) = (ms.find? fun m => decide (m.1 = t)).map fun m => V.int m.2
  | [], _ => rfl
  | m :: ms, t => by
    have ih := valV_kvP ms t
    unfold valV at ih ⊢
    rw [List.map_cons, List.find?_cons, List.find?_cons]
    have e : decide ((kvP m).1 = (Sum.inl t : Key)) = decide (m.1 = t) := by
      rw [decide_eq_decide]
      unfold kvP
      constructor
      · intro h
        injection h
      · intro h
        rw [h]
    rw [e]
    cases decide (m.1 = t) with
    | true => rfl
    | false => exact ih
theorem atI_pace {ps : List Int} {t : Int} (h : 0 < ps.length) : atI (ps.map V.int) (t % ps.length) = some (.int (paceOf ps t)) := by
  have h0 := Int.emod_nonneg t (show (ps.length : Int) ≠ 0 by omega)
  have h1 := Int.emod_lt_of_pos t (show (0 : Int) < ps.length by omega)
  obtain ⟨v, _, e, e2⟩ := atI_ints h0 h1
  rw [e2]
  unfold paceOf
  rw [List.getD_eq_getElem?_getD, e]
  rfl
def calF (l d : Addr) : List (Str × V) := putF "_changes" (.ref d) (putF "_speeds" (.ref l) [])
theorem calNe : ¬ (("_speeds" : Str) = "_changes") := by decide +kernel
theorem calF_s (l d : Addr) : (calF l d).lookup ("_speeds" : Str) = some (.ref l) := by
  unfold calF
  rw [lookup_putF, if_neg calNe, lookup_putF, if_pos rfl]
theorem calF_c (l d : Addr) : (calF l d).lookup ("_changes" : Str) = some (.ref d) := by
  unfold calF
  rw [lookup_putF, if_pos rfl]
theorem calF_no (l d : Addr) {m : Str} (h1 : ¬ m = "_changes") (h2 : ¬ m = "_speeds") : (calF l d).lookup m = none := by
  unfold calF
  rw [lookup_putF, if_neg h1, lookup_putF, if_neg h2]
  rfl
/-- a calendar with these speeds and these changes stands at x; its list at l, its dict at d -/
structure CalAt (C : Addr) (H : Hp) (x l d : Addr) (ps : List Int) (ms : List (Int × Int)) : Prop where
  ob : ∃ dx, H x = some (.ins C dx (calF l d))
  ls : H l = some (.lst (ps.map V.int))
  dc : H d = some (.dK (ms.map kvP))
theorem CalAt.same {C : Addr} {H H' : Hp} {x l d : Addr} {ps : List Int} {ms : List (Int × Int)} (h : CalAt C H x l d ps ms) (f : Same H H') : CalAt C H' x l d ps ms := by
  obtain ⟨⟨dx, h1⟩, h2, h3⟩ := h
  exact ⟨⟨dx, f _ _ h1⟩, f _ _ h2, f _ _ h3⟩
theorem CalAt.put {C : Addr} {H : Hp} {x l d c : Addr} {o : HO} {ps : List Int} {ms : List (Int × Int)} (h : CalAt C H x l d ps ms) (n1 : x ≠ c) (n2 : l ≠ c) (n3 : d ≠ c) : CalAt C (upd H c o) x l d ps ms := by
  obtain ⟨⟨dx, h1⟩, h2, h3⟩ := h
  exact ⟨⟨dx, by rw [upd_ne n1]; exact h1⟩, by rw [upd_ne n2]; exact h2, by rw [upd_ne n3]; exact h3⟩
theorem CalAt.fr {C : Addr} {H H' : Hp} {x l d p : Addr} {ps : List Int} {ms : List (Int × Int)} (h : CalAt C H x l d ps ms) (f : Fr p H H') (n1 : x ≠ p) (n2 : l ≠ p) (n3 : d ≠ p) : CalAt C H' x l d ps ms := by
  obtain ⟨⟨dx, h1⟩, h2, h3⟩ := h
  exact ⟨⟨dx, f _ _ h1 n1⟩, f _ _ h2 n2, f _ _ h3 n3⟩
def spInit (C : Addr) (K : PySem.W.Frag) : Sp := fun vs H Q _ => ∃ (x dx a b : Addr) (ps : List Int) (ts : List Addr) (ms : List (Int × Int)), vs = [.ref x, .ref a, .ref b] ∧ H x = some (.ins C dx []) ∧
  SqL K H a (ps.map V.int) ∧ SqL K H b (ts.map V.ref) ∧ Tups H ts ms ∧ Paces ps ∧ Fit ms ∧ a ≠ x ∧ b ≠ x ∧
  ∀ H' l d, CalAt C H' x l d ps (realOf ps ms) → H l = none → H d = none → (∀ c o, H c = some o → c ≠ x → H' c = some o) → Q .non H'
/-- len of a list or a tuple, told by the written part -/
def rLen (K : PySem.W.Frag) : List V → Hp → VK → Prop := fun vs H Q => ∃ (p : Addr) (ys : List V), vs = [.ref p] ∧
  (SqL K H p ys ∨ SqT K H p ys) ∧ Q (.int (ys.length : Nat)) H
/-- the class of calendars as the top has made it -/
structure Cal (K : PySem.W.Frag) (mg : Str → Option Value) (C : Addr) : Prop where
  cl : Cls K C
  nS : NoAttr K C "_speeds"
  nC : NoAttr K C "_changes"
  at_ : mg "Calendar" = some (.ref C)
section
variable {P : Program} {w : World} {K : PySem.W.Frag} {mg : Str → Option Value} {base : Heap}
theorem scInit : FnScope ["self", "speeds", "changes", "moment", "speed"] ["self", "speeds", "changes"] (defScope sInit) := ⟨rfl, rfl, rfl, by decide +kernel, rfl, by decide +kernel, by decide +kernel⟩
theorem ok_init {f fS fC C : Addr} {fd fdS fdC : FuncData} (F : Fun K "__init__" "Calendar.__init__" sInit f fd) (Z : Cal K mg C) (T : Blt mg)
    (S : At P w K mg base 2 "check_speeds" ["speeds"] (spChkS K) fS fdS) (B : At P w K mg base 2 "check_changes" ["changes"] (spChkC K) fC fdC) :
    FnOk P w K mg base CX0 3 f fd ["self", "speeds", "changes"] (spInit C K) := by
  refine F.ok scInit (fun vs H Q E h => ?_) (fun cdv A outer s H vs Q E hr h => ?_)
  · obtain ⟨x, dx, a, b, ps, ts, ms, rfl, _⟩ := h
    rfl
  · obtain ⟨x, dx, a, b, ps, ts, ms, rfl, hx, ha, hb, tp, hp, fit, ax, bx, k⟩ := h
    refine ⟨_, pss_cons (ps_expr (pe_call S.ok hr (by rfl) S.at_ S.kp S.bi .nil pass0 (pa_cons (pv 1) pa_nil)))
      (pss_cons (ps_expr (pe_call B.ok hr (by rfl) B.at_ B.kp B.bi .nil pass0 (pa_cons (pv 2) pa_nil)))
      (pss_cons (ps_fld (pv 0) (pe_callTy call_list_of (by rfl) T.list (by decide +kernel) (pa_cons (pv 1) pa_nil)) rfl)
      (pss_one (ps_fld (pv 0) (pe_dc (own := [("moment", 3), ("speed", 4)]) (g := gTup K 2 (gCons (gName 3) (gCons (gName 4) gNil))) rfl scInit.nd (pi_list (pv 2)) (blkOk_by (N := ["self", "speeds", "changes", "moment", "speed"]) (sc := defScope sInit) (by decide +kernel))
        (fun _ _ _ _ _ => pg_tup rfl (pgs_cons (pg_name (i := 3) scInit.nd rfl (.inl rfl)) (pgs_cons (pg_name (i := 4) scInit.nd rfl (.inl rfl)) pgs_nil)))
        (fun _ _ _ _ _ => pts_one (pt_cmpR op_ne (pv 4) (pe_ix (r := rIxL K) ix_list (pv 1) (pe_op op_mod (pv 3) (pe_callB (r := rLen K) call_len_seq (by rfl) T.len PySem.boot_len (pa_cons (pv 1) pa_nil))) (fun _ _ => rfl)) (nomark _)))
        (fun _ _ _ _ _ => pv 3) (fun _ _ _ _ _ => pv 4)) rfl)))), ?_⟩
    have l0 := hp.len0
    have l1 := hp.len1
    refine ⟨_, rfl, a, ps, rfl, ha, hp, fun H1 s1 => ?_⟩
    refine ⟨_, rfl, b, ts, ms, rfl, s1.seq hb, tp.same s1, fit, fun H2 s2 => ?_⟩
    have s12 := s1.trans s2
    refine ⟨_, rfl, a, _, rfl, .inl (s12.seq ha), fun l hl => ?_⟩
    have hx2 := s12 _ _ hx
    have xl : x ≠ l := ne_of_none hx2 hl
    refine ⟨_, rfl, x, C, dx, _, rfl, (by rw [upd_ne xl]; exact hx2), Z.cl, Z.nS, (by show 0 < 1000; decide), ?_⟩
    generalize hH3 : upd (upd H2 l (.lst (ps.map V.int))) x (.ins C dx (putF "_speeds" (.ref l) [])) = H3
    have f3 : ∀ c o, H c = some o → c ≠ x → H3 c = some o := fun c o e g => by
      have e2 := s12 _ _ e
      rw [← hH3, upd_ne g, upd_ne (ne_of_none e2 hl)]
      exact e2
    have sq : ∀ {c : Addr} {xs : List V}, c ≠ x → SqL K H c xs → SqL K H3 c xs := fun {c xs} g h => by
      rcases h with (h | ⟨o, h⟩) | h
      · exact .inl (.inl (f3 _ _ h g))
      · exact .inl (.inr ⟨o, f3 _ _ h g⟩)
      · exact .inr h
    have hx3 : H3 x = some (.ins C dx (putF "_speeds" (.ref l) [])) := by rw [← hH3]; exact upd_same
    have hl3 : H3 l = some (.lst (ps.map V.int)) := by rw [← hH3, upd_ne xl.symm]; exact upd_same
    have tp3 : Tups H3 ts ms := tp.imp fun t xs e => f3 _ _ e fun z => by
      rw [z, hx] at e
      cases e
    have tl := tp.len
    refine ⟨_, rfl, b, rfl, ⟨_, sq bx hb⟩, fun D hD => dc_it (walk_list (K := K) (a := b) (xs := ts.map V.ref)) (fun i J => J D = some (.dK ((realOf ps (ms.take i)).map kvP)) ∧ ∀ c o, H3 c = some o → J c = some o) ⟨upd_same, same_new hD⟩
      (fun i J _ h => (show Same H3 J from h.2).seq (sq bx hb)) ?_ ?_⟩
    · rintro i y J J' hi ⟨hJ, sJ⟩ ⟨rfl, hy⟩
      have hi' : i < ts.length := by simpa using hi
      rw [List.getElem?_map, List.getElem?_eq_getElem hi'] at hy
      obtain rfl := Option.some.inj hy
      obtain ⟨m, hm, hm2⟩ := (tp3.same (show Same H3 J' from sJ)).get (List.getElem?_eq_getElem hi')
      have et : ms.take (i + 1) = ms.take i ++ [m] := by rw [List.take_add_one, hm]; rfl
      refine ⟨_, _, rfl, .inl (.inl hm2), rfl, _, _, rfl, _, [], rfl, rfl, rfl, ?_⟩
      have hb' := sq ax ha
      have ha' : SqL K J' a (ps.map V.int) := (show Same H3 J' from sJ).seq hb'
      refine ⟨_, rfl, _, rfl, _, rfl, _, rfl, a, _, rfl, .inl ha', _, _, rfl, rfl, (by rw [List.length_map]; omega), a, _, _, _, rfl, rfl, ha', (by rw [List.length_map]; exact atI_pace l0), rfl, ?_⟩
      have ei : decide (V.int m.2 = V.int (paceOf ps m.1)) = decide (m.2 = paceOf ps m.1) := by
        rw [decide_eq_decide]
        exact ⟨fun e => by injection e, fun e => by rw [e]⟩
      rw [ei]
      by_cases hc : m.2 = paceOf ps m.1
      · rw [decide_eq_true hc]
        refine ⟨false, rfl, ?_, sJ⟩
        rw [et]
        unfold realOf
        rw [List.filter_append]
        have : List.filter (fun m => decide (m.2 ≠ paceOf ps m.1)) [m] = [] := by simp [hc]
        rw [this, List.append_nil]
        exact hJ
      · rw [decide_eq_false hc]
        have hr' : ((realOf ps (ms.take i)).map kvP).length < sizeLine := by
          rw [List.length_map]
          refine small1000 (Nat.le_trans (List.length_filter_le _ _) ?_)
          rw [List.length_take]
          have := fit.len
          omega
        have hv : valV ((realOf ps (ms.take i)).map kvP) (Sum.inl m.1 : Key) = none := by
          rw [valV_kvP, List.find?_eq_none.mpr]
          · rfl
          · intro m' hm' e'
            have h1 := (List.mem_filter.mp hm').1
            obtain ⟨j, hj, e⟩ := List.getElem_of_mem h1
            rw [List.length_take] at hj
            rw [List.getElem_take] at e
            have hi2 : i < ms.length := by omega
            have hlt := List.pairwise_iff_getElem.mp fit.asc j i (by omega) hi2 (by omega)
            rw [List.getElem?_eq_getElem hi2] at hm
            have := Option.some.inj hm
            have e3 : m'.1 = m.1 := by simpa using e'
            rw [e, this, e3] at hlt
            omega
        refine ⟨true, rfl, _, rfl, _, rfl, _, Sum.inl m.1, rfl, hJ, hr', ?_, fun c o e => ?_⟩
        · rw [upd_same, putK_new _ hv, et]
          unfold realOf
          rw [List.filter_append]
          have : List.filter (fun m => decide (m.2 ≠ paceOf ps m.1)) [m] = [m] := by simp [hc]
          rw [this, List.map_append]
          rfl
        · rw [upd_ne (ne_of_none e hD)]
          exact sJ c o e
    · rintro J ⟨hJ, sJ⟩
      rw [List.length_map, tl, List.take_length] at hJ
      refine ⟨_, rfl, x, C, dx, _, rfl, sJ _ _ hx3, Z.cl, Z.nC, (by show 1 < 1000; decide), ?_⟩
      have xD : x ≠ D := ne_of_none hx3 hD
      refine k _ l D ⟨⟨dx, upd_same⟩, ?_, ?_⟩ (s12.free hl) ?_ fun c o e g => ?_
      · rw [upd_ne xl.symm]
        exact sJ _ _ hl3
      · rw [upd_ne xD.symm]
        exact hJ
      · cases e : H D with
        | none => rfl
        | some o =>
          rw [f3 D o e (fun z => xD z.symm)] at hD
          cases hD
      · rw [upd_ne g]
        exact sJ _ _ (f3 c o e g)
end

/-! ### what a calendar tells: week, speeds, changes -/
def spWeek (C : Addr) : Sp := fun vs H Q _ => ∃ (x l d : Addr) (ps : List Int) (ms : List (Int × Int)), vs = [.ref x] ∧ CalAt C H x l d ps ms ∧ Q (.int (ps.length : Nat)) H
def spSpeeds (C : Addr) : Sp := fun vs H Q _ => ∃ (x l d : Addr) (ps : List Int) (ms : List (Int × Int)), vs = [.ref x] ∧ CalAt C H x l d ps ms ∧
  ∀ q, H q = none → Q (.ref q) (upd H q (.lst (ps.map V.int)))
def spChanges (C : Addr) : Sp := fun vs H Q _ => ∃ (x l d : Addr) (ps : List Int) (ms : List (Int × Int)), vs = [.ref x] ∧ CalAt C H x l d ps ms ∧
  ∀ (H' : Hp) (q : Addr) (ts : List Addr), Same H H' → H q = none → (∀ t ∈ ts, H t = none) → q ∉ ts → H' q = some (.lst (ts.map V.ref)) → Tups H' ts ms → Q (.ref q) H'
theorem tups_paired {H : Hp} : ∀ {ts : List Addr} {ms : List (Int × Int)}, Paired (fun (t : Addr) (q : Key × V) => H t = some (.tup [kV q.1, q.2])) ts (ms.map kvP) → Tups H ts ms
  | [], [], _ => trivial
  | [], m :: ms, h => nomatch h
  | t :: ts, [], h => nomatch h
  | t :: ts, m :: ms, h => by
    have h' : Paired (fun (t : Addr) (q : Key × V) => H t = some (.tup [kV q.1, q.2])) (t :: ts) (kvP m :: ms.map kvP) := h
    cases h' with
    | cons a b => exact ⟨a, tups_paired b⟩
section
variable {P : Program} {w : World} {K : PySem.W.Frag} {mg : Str → Option Value} {base : Heap}
theorem scGet1 : FnScope ["self"] ["self"] (defScope sWeek) := ⟨rfl, rfl, rfl, by decide +kernel, rfl, by decide +kernel, by decide +kernel⟩
theorem scGet2 : FnScope ["self"] ["self"] (defScope sSpeeds) := ⟨rfl, rfl, rfl, by decide +kernel, rfl, by decide +kernel, by decide +kernel⟩
theorem scGet3 : FnScope ["self"] ["self"] (defScope sChanges) := ⟨rfl, rfl, rfl, by decide +kernel, rfl, by decide +kernel, by decide +kernel⟩
theorem ok_week {f C : Addr} {fd : FuncData} (F : Fun K "week" "Calendar.week" sWeek f fd) (Z : Cal K mg C) (T : Blt mg) : FnOk P w K mg base CX0 1 f fd ["self"] (spWeek C) := by
  refine F.ok scGet1 (fun vs H Q E h => ?_) (fun cdv A outer s H vs Q E hr h => ?_)
  · obtain ⟨x, l, d, ps, ms, rfl, _⟩ := h
    rfl
  · obtain ⟨x, l, d, ps, ms, rfl, ⟨⟨dx, hx⟩, hl, hd⟩, k⟩ := h
    refine ⟨_, pss_one (ps_ret (pe_callB call_len_seq (by rfl) T.len PySem.boot_len (pa_cons (pe_fld (pv 0) rfl) pa_nil))), ?_⟩
    refine ⟨_, rfl, x, C, dx, _, _, rfl, hx, Z.cl, Z.nS, calF_s l d, l, _, rfl, .inl (SqL.of hl), ?_⟩
    rw [List.length_map]
    exact k
theorem ok_speeds {f C : Addr} {fd : FuncData} (F : Fun K "speeds" "Calendar.speeds" sSpeeds f fd) (Z : Cal K mg C) (T : Blt mg) : FnOk P w K mg base CX0 1 f fd ["self"] (spSpeeds C) := by
  refine F.ok scGet2 (fun vs H Q E h => ?_) (fun cdv A outer s H vs Q E hr h => ?_)
  · obtain ⟨x, l, d, ps, ms, rfl, _⟩ := h
    rfl
  · obtain ⟨x, l, d, ps, ms, rfl, ⟨⟨dx, hx⟩, hl, hd⟩, k⟩ := h
    refine ⟨_, pss_one (ps_ret (pe_callTy call_list_of (by rfl) T.list (by decide +kernel) (pa_cons (pe_fld (pv 0) rfl) pa_nil))), ?_⟩
    exact ⟨_, rfl, x, C, dx, _, _, rfl, hx, Z.cl, Z.nS, calF_s l d, l, _, rfl, .inl (SqL.of hl), k⟩
theorem ok_changes {f C : Addr} {fd : FuncData} (F : Fun K "changes" "Calendar.changes" sChanges f fd) (Z : Cal K mg C) (T : Blt mg) : FnOk P w K mg base CX0 1 f fd ["self"] (spChanges C) := by
  refine F.ok scGet3 (fun vs H Q E h => ?_) (fun cdv A outer s H vs Q E hr h => ?_)
  · obtain ⟨x, l, d, ps, ms, rfl, _⟩ := h
    rfl
  · obtain ⟨x, l, d, ps, ms, rfl, ⟨⟨dx, hx⟩, hl, hd⟩, k⟩ := h
    refine ⟨_, pss_one (ps_ret (LiI.pe_listItems rfl (pe_fld (pv 0) rfl) (by rfl) T.list (by decide +kernel))), ?_⟩
    exact ⟨_, rfl, x, C, dx, _, _, rfl, hx, Z.cl, Z.nC, calF_c l d, d, _, rfl, hd, fun H' q ts s1 nq nt qt hq hp => k H' q ts s1 nq nt qt hq (tups_paired hp)⟩
end
/-- a property of the calendars, by its getter -/
structure Pp (P : Program) (w : World) (K : PySem.W.Frag) (mg : Str → Option Value) (base : Heap) (C : Addr) (x : Str) (sp : Sp) (p g : Addr) (fd : FuncData) : Prop where
  of : PropOf K C x p g
  ok : FnOk P w K mg base CX0 1 g fd ["self"] sp
  bi : Binds K fd ["self"] []

/-! ### data whose repr is short -/
structure Rp (d : PyData) (n k : Nat) : Prop where
  lv : d.leavesShort 42 = true
  sh : d.showable = true
  nd : d.hasDict = false
  dp : d.depth ≤ k
  bk : d.bulk ≤ n
structure RpA (xs : List PyData) (n k : Nat) : Prop where
  lv : PyData.leavesShortAll 42 xs = true
  sh : PyData.showableAll xs = true
  nd : PyData.hasDictAll xs = false
  dp : PyData.depthAll xs ≤ k
  bk : PyData.bulkAll xs ≤ n
theorem Rp.int {i : Int} (h0 : -10 ^ 40 < i) (h1 : i < 10 ^ 40) : Rp (.int i) 0 0 := by
  have h : i.natAbs < 10 ^ 40 := by omega
  refine ⟨?_, ?_, rfl, Nat.le_refl _, Nat.le_refl _⟩
  · refine decide_eq_true ?_
    have e := int_text_length_le10 (k := 40) (by decide) h
    show (Str.ofString (toString i)).length ≤ 42
    rw [PySem.ofString_length]
    omega
  · refine decide_eq_true ?_
    by_cases z : i.natAbs = 0
    · rw [z]
      decide
    · have : i.natAbs < 2 ^ 1920 := Nat.lt_trans h (by decide)
      exact (Nat.log2_lt z).mpr this
theorem Rp.bool (b : Bool) : Rp (.bool b) 0 0 := ⟨rfl, rfl, rfl, Nat.le_refl _, Nat.le_refl _⟩
theorem Rp.none : Rp .none 0 0 := ⟨rfl, rfl, rfl, Nat.le_refl _, Nat.le_refl _⟩
theorem Rp.mono {d : PyData} {n k n' k' : Nat} (h : Rp d n k) (g1 : n ≤ n') (g2 : k ≤ k') : Rp d n' k' := ⟨h.lv, h.sh, h.nd, Nat.le_trans h.dp g2, Nat.le_trans h.bk g1⟩
theorem RpA.mono {d : List PyData} {n k n' k' : Nat} (h : RpA d n k) (g1 : n ≤ n') (g2 : k ≤ k') : RpA d n' k' := ⟨h.lv, h.sh, h.nd, Nat.le_trans h.dp g2, Nat.le_trans h.bk g1⟩
theorem Rp.list {xs : List PyData} {n k : Nat} (h : RpA xs n k) : Rp (.list xs) n (k + 1) :=
  ⟨by simp only [PyData.leavesShort, h.lv], by simp only [PyData.showable, h.sh], by simp only [PyData.hasDict, h.nd], by simp only [PyData.depth]; have := h.dp; omega, by simp only [PyData.bulk]; exact h.bk⟩
theorem Rp.tup {xs : List PyData} {n k : Nat} (h : RpA xs n k) : Rp (.tuple xs) n (k + 1) :=
  ⟨by simp only [PyData.leavesShort, h.lv], by simp only [PyData.showable, h.sh], by simp only [PyData.hasDict, h.nd], by simp only [PyData.depth]; have := h.dp; omega, by simp only [PyData.bulk]; exact h.bk⟩
theorem RpA.nil : RpA [] 0 0 := ⟨rfl, rfl, rfl, Nat.le_refl _, Nat.le_refl _⟩
theorem RpA.cons {d : PyData} {xs : List PyData} {n k m j : Nat} (h : Rp d n k) (g : RpA xs m j) : RpA (d :: xs) (n + 1 + m) (k + j) :=
  ⟨by simp only [PyData.leavesShortAll, h.lv, g.lv, Bool.and_self], by simp only [PyData.showableAll, h.sh, g.sh, Bool.and_self], by simp only [PyData.hasDictAll, h.nd, g.nd, Bool.or_self],
    by simp only [PyData.depthAll]; have := h.dp; have := g.dp; omega, by simp only [PyData.bulkAll]; have := h.bk; have := g.bk; omega⟩
theorem RpA.all {n k : Nat} : ∀ {xs : List PyData}, (∀ d ∈ xs, Rp d n k) → RpA xs (xs.length * (n + 1)) k
  | [], _ => RpA.nil.mono (Nat.zero_le _) (Nat.zero_le _)
  | d :: xs, h => by
    have h1 := h d List.mem_cons_self
    have h2 := RpA.all (xs := xs) fun e he => h e (List.mem_cons_of_mem _ he)
    refine ⟨by simp only [PyData.leavesShortAll, h1.lv, h2.lv, Bool.and_self], by simp only [PyData.showableAll, h1.sh, h2.sh, Bool.and_self], by simp only [PyData.hasDictAll, h1.nd, h2.nd, Bool.or_self], ?_, ?_⟩
    · simp only [PyData.depthAll]
      have := h1.dp
      have := h2.dp
      omega
    · simp only [PyData.bulkAll]
      have := h1.bk
      have := h2.bk
      rw [List.length_cons, Nat.add_mul]
      omega
theorem Rp.fits {d : PyData} {n k : Nat} (h : Rp d n k) (g : n ≤ 300000) : d.shown.length ≤ sizeLine := by
  have e := PyData.shown_le_bulk 42 (by decide) d h.lv
  have := h.bk
  rw [sizeLine_eq]
  omega
def rRep2 (K : PySem.W.Frag) : List V → Hp → VK → Prop := fun xs H Q => ∃ (a : Addr) (d : PyData) (n k : Nat), xs = [.ref a] ∧ Dp K H (.ref a) d ∧ Rp d n k ∧ k ≤ 60 ∧ n ≤ 300000 ∧ Q (.str d.shown) H
theorem call_rep2 {X : Cx} (hgd : X.A.guards = some []) (hu : X.A.units + 64 < cLine) : CallR X (.builtin "repr") (rRep2 X.K) := by
  intro pins s σ H xs us Q I r h
  obtain ⟨a, d, n, k, e, hd, hr, hk, hn, q⟩ := h
  exact call_repr hgd hu pins s σ H xs us Q I r ⟨a, d, e, hd, hr.sh, hr.nd, Nat.le_trans hr.dp hk, hr.fits hn, q⟩
/-! ### which data stand where -/
def dInts (xs : List Int) : PyData := .list (xs.map PyData.int)
def dMarks (ms : List (Int × Int)) : PyData := .list (ms.map fun m => PyData.tuple [.int m.1, .int m.2])
theorem dpAll_ints {K : PySem.W.Frag} {H : Hp} : ∀ xs : List Int, DpAll K H (xs.map V.int) (xs.map PyData.int)
  | [] => .nil
  | x :: xs => .cons (.int x) (dpAll_ints xs)
theorem dp_ints {K : PySem.W.Frag} {H : Hp} {a : Addr} {xs : List Int} (h : SqL K H a (xs.map V.int)) : Dp K H (.ref a) (dInts xs) := .lst h (dpAll_ints xs)
theorem dpAll_marks {K : PySem.W.Frag} {H : Hp} : ∀ {ts : List Addr} {ms : List (Int × Int)}, Tups H ts ms → DpAll K H (ts.map V.ref) (ms.map fun m => PyData.tuple [.int m.1, .int m.2])
  | [], [], _ => .nil
  | _ :: _, m :: _, h => .cons (.tup (SqT.of h.1) (.cons (.int m.1) (.cons (.int m.2) .nil))) (dpAll_marks h.2)
theorem dp_marks {K : PySem.W.Frag} {H : Hp} {a : Addr} {ts : List Addr} {ms : List (Int × Int)} (h : SqL K H a (ts.map V.ref)) (g : Tups H ts ms) : Dp K H (.ref a) (dMarks ms) := .lst h (dpAll_marks g)
theorem rp_ints {xs : List Int} (h : ∀ v ∈ xs, -10 ^ 40 < v ∧ v < 10 ^ 40) : Rp (dInts xs) xs.length 1 := by
  have := RpA.all (xs := xs.map PyData.int) (n := 0) (k := 0) fun d hd => by
    obtain ⟨v, hv, rfl⟩ := List.mem_map.mp hd
    exact Rp.int (h v hv).1 (h v hv).2
  refine (Rp.list this).mono ?_ (Nat.le_refl _)
  rw [List.length_map]
  omega
theorem rp_marks {ms : List (Int × Int)} (h : ∀ m ∈ ms, -10 ^ 40 < m.1 ∧ m.1 < 10 ^ 40 ∧ -10 ^ 40 < m.2 ∧ m.2 < 10 ^ 40) : Rp (dMarks ms) (ms.length * 3) 2 := by
  have := RpA.all (xs := ms.map fun m => PyData.tuple [.int m.1, .int m.2]) (n := 2) (k := 1) fun d hd => by
    obtain ⟨m, hm, rfl⟩ := List.mem_map.mp hd
    have g := h m hm
    exact (Rp.tup (.cons (Rp.int g.1 g.2.1) (.cons (Rp.int g.2.2.1 g.2.2.2) .nil))).mono (by omega) (by omega)
  refine (Rp.list this).mono ?_ (Nat.le_refl _)
  rw [List.length_map]
  omega

/-! ### operators of own classes -/
section
variable {X : Cx} {k : Nat} {f C : Addr} {fd : FuncData} {ps : List Str} {sp : Sp}
theorem run_in1 {pins : List (Addr × Obj)} {σ : L2.St} {H : Hp} {s : Shared} {Q : VK} {us : List Value} {vs : List V} (F : FnOk X.prog X.w X.K X.mg X.base CX0 k f fd ps sp) (hr : Room (k + 1) X.A)
    (hb : Binds X.K fd ps []) (I : Inv X pins σ H s) (r : Vals vs us) (h : sp vs H Q E0) : wpAny (model X.prog X.w) X.A.in1 (call (.ref f) us) (EP X pins σ Q) X.xe s := by
  have hl : us.length = ps.length := r.length.symm.trans (F.len _ _ _ _ h)
  have bi := hb s us I.kIn (by rw [List.append_nil]; exact hl)
  rw [List.append_nil] at bi
  refine wpAny_call (codeAny_mono (F.run X.A.in1 X.stack s H ⟨us, []⟩ us vs Q E0 hr.in1 I.env0.in1 bi r h) fun res s2 hq => ?_)
  rcases res with er | fl
  · exact False.elim hq
  · rcases fl with _ | _ | _ | u
    iterate 3 exact False.elim hq
    exact I.after hq
theorem run_here {pins : List (Addr × Obj)} {σ : L2.St} {H : Hp} {s : Shared} {Q : VK} {us : List Value} {vs : List V} (F : FnOk X.prog X.w X.K X.mg X.base CX0 k f fd ps sp) (hr : Room k X.A)
    (hb : Binds X.K fd ps []) (I : Inv X pins σ H s) (r : Vals vs us) (h : sp vs H Q E0) : wpAny (model X.prog X.w) X.A (call (.ref f) us) (EP X pins σ Q) X.xe s := by
  have q : sp (vs ++ []) H Q E0 := by rw [List.append_nil]; exact h
  exact run_fn F hr hb .nil pass0 I r q
/-- what stands behind x[i], i in x of an own class -/
structure Own (K : PySem.W.Frag) (C : Addr) (m : Str) (f : Addr) : Prop where
  at_ : PySem.W.findIn K (.ref C) m = some (some (.ref f))
  fn : PySem.W.isFn K (.ref f) = true
  fi : PySem.W.fnIn K f = true
def rOwn (C : Addr) (sp : Sp) : R2 := fun x y H Q => ∃ a dx fs, x = .ref a ∧ H a = some (.ins C dx fs) ∧ sp [.ref a, y] H Q E0
theorem ix_own (o : Own X.K C "__getitem__" f) (F : FnOk X.prog X.w X.K X.mg X.base CX0 k f fd ps sp) (hr : Room (k + 1) X.A) (hb : Binds X.K fd ps [])
    {a b : Expr} {ta tb : TE} {pos : Pos} (ha : PE X a ta) (hi : PE X b tb)
    (hsl : ∀ (x : Addr) (i : Value), subscripted b true (.ref x) i = runValue (.builtin "lifetime.subscript" ⟨[.ref x, i], []⟩) := by intro _ _; with_unfolding_all rfl) :
    PE X (.Subscript a b pos) (tOp (rOwn C sp) ta tb) := by
  refine ⟨fun pins s σ H Q I h => ?_⟩
  refine Subscript_ (binT ha hi I h fun v u s2 x y H2 I2 rx ry q => ?_)
  obtain ⟨p, dx, fs, rfl, ea, hq⟩ := q
  obtain rfl : v = Value.ref p := rx
  obtain ⟨m, fr⟩ := I2.fr
  obtain ⟨mA, O, _⟩ := ins_get I2.hok ea
  obtain ⟨od, J, _⟩ := O.look
  exact PySem.W.sub_K fr I2.ok.mod.kin J o.at_ o.fi o.fn (run_in1 F hr hb I2 (.cons (show L2.RelV (V.ref p) (Value.ref p) from rfl) (.cons ry .nil)) hq) (hsl p u)
def rIn (C : Addr) (sp : Sp) : R2 := fun y x H Q => ∃ a dx fs, x = .ref a ∧ H a = some (.ins C dx fs) ∧ sp [.ref a, y] H (fun r H' => ∃ b, r = .bl b ∧ Q (.bl b) H') E0
theorem op_inOwn (o : Own X.K C "__contains__" f) (F : FnOk X.prog X.w X.K X.mg X.base CX0 k f fd ps sp) (hr : Room k X.A) (hb : Binds X.K fd ps []) : OpR X (compareOp .In) (rIn C sp) := by
  intro pins s σ H y x v u Q I ry rx h
  obtain ⟨p, dx, fs, rfl, ea, hq⟩ := h
  obtain rfl : u = Value.ref p := rx
  obtain ⟨m, fr⟩ := I.fr
  obtain ⟨mA, O, _⟩ := ins_get I.hok ea
  obtain ⟨od, J, _⟩ := O.look
  refine PySem.W.in_K fr I.ok.mod.kin J o.at_ o.fn (thn (run_here F hr hb I (.cons (show L2.RelV (V.ref p) (Value.ref p) from rfl) (.cons ry .nil)) hq) fun r s2 ⟨z, H2, I2, rz, b, eb, q2⟩ => ?_)
  subst eb
  obtain rfl : r = Value.bool b := rz
  exact wpAny_truthy_bool ⟨.bl b, H2, I2, rfl, q2⟩
end
/-- the speed that a calendar has at a moment -/
def speedAt (ps : List Int) (ms : List (Int × Int)) (t : Int) : Int := ((ms.find? fun m => decide (m.1 = t)).map fun m => m.2).getD (paceOf ps t)
def spGet (C : Addr) : Sp := fun vs H Q _ => ∃ (x l d : Addr) (ps : List Int) (ms : List (Int × Int)) (t : Int), vs = [.ref x, .int t] ∧ CalAt C H x l d ps ms ∧ 0 < ps.length ∧ Q (.int (speedAt ps ms t)) H
def spHas (C : Addr) : Sp := fun vs H Q _ => ∃ (x l d : Addr) (ps : List Int) (ms : List (Int × Int)) (t : Int), vs = [.ref x, .int t] ∧ CalAt C H x l d ps ms ∧ 0 < ps.length ∧ Q (.bl (decide (speedAt ps ms t ≠ 0))) H
section
variable {P : Program} {w : World} {K : PySem.W.Frag} {mg : Str → Option Value} {base : Heap}
theorem scGet : FnScope ["self", "at"] ["self", "at"] (defScope sGet) := ⟨rfl, rfl, rfl, by decide +kernel, rfl, by decide +kernel, by decide +kernel⟩
theorem ok_get {f C : Addr} {fd : FuncData} (F : Fun K "__getitem__" "Calendar.__getitem__" sGet f fd) (Z : Cal K mg C) (T : Blt mg) : FnOk P w K mg base CX0 1 f fd ["self", "at"] (spGet C) := by
  refine F.ok scGet (fun vs H Q E h => ?_) (fun cdv A outer s H vs Q E hr h => ?_)
  · obtain ⟨x, l, d, ps, ms, t, rfl, _⟩ := h
    rfl
  · obtain ⟨x, l, d, ps, ms, t, rfl, ⟨⟨dx, hx⟩, hl, hd⟩, l0, k⟩ := h
    have hu := hu_of hr
    refine ⟨_, pss_one (ps_ret (pe_dget2 hu (pe_fld (pv 0) rfl) (pv 1) (pe_ix ix_list (pe_fld (pv 0) rfl) (pe_op op_mod (pv 1) (pe_callB call_len_seq (by rfl) T.len PySem.boot_len (pa_cons (pe_fld (pv 0) rfl) pa_nil))) (fun _ _ => rfl)) ⟨rfl, rfl, rfl, rfl⟩)), ?_⟩
    have hz : (((ps.map V.int).length : Nat) : Int) = ps.length := by rw [List.length_map]
    refine ⟨_, rfl, x, C, dx, _, _, rfl, hx, Z.cl, Z.nC, calF_c l d, d, rfl, .inl ⟨_, .inl hd⟩, _, rfl, _, rfl, x, C, dx, _, _, rfl, hx, Z.cl, Z.nS, calF_s l d, _, rfl, _, rfl, x, C, dx, _, _, rfl, hx, Z.cl, Z.nS, calF_s l d, l, _, rfl, .inl (SqL.of hl), _, _, rfl, rfl, ?_, l, _, _, .int (paceOf ps t), rfl, rfl, SqL.of hl, ?_, ?_⟩
    · rw [hz]
      omega
    · rw [hz]
      exact atI_pace l0
    · refine ⟨_, DGet.k (k := Sum.inl t) hd, ?_⟩
      rw [valV_kvP]
      unfold speedAt at k
      cases e : ms.find? fun m => decide (m.1 = t) with
      | none =>
        rw [e] at k
        exact k
      | some m =>
        rw [e] at k
        exact k
theorem scHas : FnScope ["self", "x"] ["self", "x"] (defScope sHas) := ⟨rfl, rfl, rfl, by decide +kernel, rfl, by decide +kernel, by decide +kernel⟩
theorem ok_has {f g C : Addr} {fd gd : FuncData} (F : Fun K "__contains__" "Calendar.__contains__" sHas f fd) (o : Own K C "__getitem__" g) (G : FnOk P w K mg base CX0 1 g gd ["self", "at"] (spGet C)) (bG : Binds K gd ["self", "at"] []) :
    FnOk P w K mg base CX0 3 f fd ["self", "x"] (spHas C) := by
  refine F.ok scHas (fun vs H Q E h => ?_) (fun cdv A outer s H vs Q E hr h => ?_)
  · obtain ⟨x, l, d, ps, ms, t, rfl, _⟩ := h
    rfl
  · obtain ⟨x, l, d, ps, ms, t, rfl, cal, l0, k⟩ := h
    obtain ⟨dx, hx⟩ := cal.ob
    refine ⟨_, pss_one (ps_ret (pe_cmpR op_ne (ix_own o G hr bG (pv 0) (pv 1)) pe_int (nomark _))), ?_⟩
    refine ⟨_, rfl, _, rfl, x, dx, _, rfl, hx, ⟨x, l, d, ps, ms, t, rfl, cal, l0, rfl, ?_⟩⟩
    have e : (!decide (V.int (speedAt ps ms t) = V.int 0)) = decide (speedAt ps ms t ≠ 0) := by
      by_cases z : speedAt ps ms t = 0
      · rw [z]
        rfl
      · have z2 : ¬ V.int (speedAt ps ms t) = V.int 0 := fun q => z (by injection q)
        rw [decide_eq_false z2, decide_eq_true z]
        rfl
    rw [e]
    exact k
end

/-! ### a law's own speed at a moment -/
theorem find_at {p : Int × Int → Bool} : ∀ {ms : List (Int × Int)} {i : Nat} {m : Int × Int}, ms[i]? = some m → (ms.take i).find? p = none → p m = true → ms.find? p = some m
  | [], i, m, h, _, _ => by simp at h
  | a :: ms, 0, m, h, _, g => by
    obtain rfl := Option.some.inj h
    rw [List.find?_cons, g]
  | a :: ms, i + 1, m, h, f, g => by
    rw [List.take_succ_cons, List.find?_cons] at f
    rw [List.find?_cons]
    cases e : p a with
    | true =>
      rw [e] at f
      cases f
    | false =>
      rw [e] at f
      exact find_at (ms := ms) (i := i) h f g
theorem find_more {p : Int × Int → Bool} {ms : List (Int × Int)} {i : Nat} {m : Int × Int} (h : ms[i]? = some m) (f : (ms.take i).find? p = none) (g : p m = false) : (ms.take (i + 1)).find? p = none := by
  rw [List.take_add_one, h, List.find?_append, f]
  show (List.find? p [m]) = none
  rw [List.find?_cons, g]
  rfl
theorem speed_hit {ps : List Int} {ms : List (Int × Int)} {t : Int} {m : Int × Int} (h : (ms.find? fun m => decide (m.1 = t)) = some m) : speedAt ps ms t = m.2 := by
  unfold speedAt
  rw [h]
  rfl
theorem speed_miss {ps : List Int} {ms : List (Int × Int)} {t : Int} (h : (ms.find? fun m => decide (m.1 = t)) = none) : speedAt ps ms t = paceOf ps t := by
  unfold speedAt
  rw [h]
  rfl
theorem speed_real {ps : List Int} : ∀ {ms : List (Int × Int)} {t : Int}, (ms.Pairwise fun a b => a.1 < b.1) → speedAt ps (realOf ps ms) t = speedAt ps ms t
  | [], t, _ => rfl
  | m :: ms, t, h => by
    have h2 := List.pairwise_cons.mp h
    have ih := speed_real (ps := ps) (ms := ms) (t := t) h2.2
    by_cases e : m.1 = t
    · have hit : ((m :: ms).find? fun m => decide (m.1 = t)) = some m := by rw [List.find?_cons, decide_eq_true e]
      rw [speed_hit hit]
      by_cases c : m.2 = paceOf ps m.1
      · have er : realOf ps (m :: ms) = realOf ps ms := by unfold realOf; simp [c]
        rw [er, ih, speed_miss, c, e]
        refine List.find?_eq_none.mpr fun m' hm' e' => ?_
        have := h2.1 m' hm'
        have e2 : m'.1 = t := by simpa using e'
        omega
      · have er : realOf ps (m :: ms) = m :: realOf ps ms := by unfold realOf; simp [c]
        rw [er]
        exact speed_hit (by rw [List.find?_cons, decide_eq_true e])
    · have miss : ∀ l : List (Int × Int), speedAt ps (m :: l) t = speedAt ps l t := fun l => by
        unfold speedAt
        rw [List.find?_cons, decide_eq_false e]
      rw [miss]
      by_cases c : m.2 = paceOf ps m.1
      · have er : realOf ps (m :: ms) = realOf ps ms := by unfold realOf; simp [c]
        rw [er]
        exact ih
      · have er : realOf ps (m :: ms) = m :: realOf ps ms := by unfold realOf; simp [c]
        rw [er, miss]
        exact ih
theorem pace_in {ps : List Int} {t : Int} (h : 0 < ps.length) : paceOf ps t ∈ ps := by
  have h0 := Int.emod_nonneg t (show (ps.length : Int) ≠ 0 by omega)
  have h1 := Int.emod_lt_of_pos t (show (0 : Int) < ps.length by omega)
  obtain ⟨v, hv, e, _⟩ := atI_ints h0 h1
  unfold paceOf
  rw [List.getD_eq_getElem?_getD, e]
  exact hv
theorem speed_lo {ps : List Int} {ms : List (Int × Int)} (hp : Paces ps) (fit : Fit ms) (t : Int) : 0 ≤ speedAt ps ms t ∧ speedAt ps ms t ≤ 3 := by
  cases e : ms.find? fun m => decide (m.1 = t) with
  | none =>
    rw [speed_miss e]
    exact hp.lo _ (pace_in hp.len0)
  | some m =>
    rw [speed_hit e]
    exact fit.val m (List.mem_of_find?_eq_some e)

/-! ### the law's own loop -/
def Scr (K : PySem.W.Frag) (H : Hp) (a : Addr) (xs : List V) : Prop := (∃ o, H a = some (.frz o (.lst xs))) ∨ ∀ J : Hp, SqL K J a xs
theorem Scr.seq {K : PySem.W.Frag} {H : Hp} {a : Addr} {xs : List V} (h : Scr K H a xs) : SqL K H a xs := by
  rcases h with ⟨o, h⟩ | h
  · exact .inl (.inr ⟨o, h⟩)
  · exact h H
theorem Scr.of {K : PySem.W.Frag} {H : Hp} {a : Addr} {xs : List V} (o : Only H) (h : SqL K H a xs) : Scr K H a xs := by
  rcases h with (h | ⟨u, h⟩) | h
  · rcases o a with z | ⟨u, ys, z⟩
    · rw [z] at h
      cases h
    · rw [z] at h
      cases h
  · exact .inl ⟨u, h⟩
  · exact .inr fun J => .inr h
theorem Scr.same {K : PySem.W.Frag} {H H' : Hp} {a : Addr} {xs : List V} (h : Scr K H a xs) (f : Same H H') : Scr K H' a xs := by
  rcases h with ⟨o, h⟩ | h
  · exact .inl ⟨o, f _ _ h⟩
  · exact .inr h
theorem Scr.fr {K : PySem.W.Frag} {H H' : Hp} {a p : Addr} {n : Nat} {xs : List V} (h : Scr K H a xs) (g : Well H p n) (f : Fr p H H') : Scr K H' a xs := by
  rcases h with ⟨o, h⟩ | h
  · refine .inl ⟨o, f _ _ h fun z => ?_⟩
    obtain ⟨x, y, u, e, _⟩ := g
    rw [z, e] at h
    cases h
  · exact .inr h
def spFits : Sp := fun vs H Q _ => ∃ (p : Addr) (n : Nat), vs = [.ref p] ∧ Well H p n ∧ n ≤ 10 ^ 6 ∧ ∀ H', Fr p H H' → Well H' p (n + 1000) → Q (.bl true) H'
def spLaw (K : PySem.W.Frag) : Sp := fun vs H Q _ => ∃ (a : Addr) (ns : List Int), vs = [.ref a] ∧ Scr K H a (ns.map V.int) ∧ ns.length ≤ 63 ∧ ∀ H', Q (.bl true) H'
/-- the turns of the inner loop -/
def turns : Nat := match defBody sLaw with
  | .For _ _ (_ :: .For _ (.Call _ (.Constant (.int n) _ _ :: _) _ _) _ _ _ :: _) _ _ :: _ => n.toNat
  | _ => 0
section
variable {P : Program} {w : World} {K : PySem.W.Frag} {mg : Str → Option Value} {base : Heap}
theorem scLaw : FnScope ["script", "place", "well", "turn"] ["script"] (defScope sLaw) := ⟨rfl, rfl, rfl, by decide +kernel, rfl, by decide +kernel, by decide +kernel⟩
theorem ok_law {f fW fF : Addr} {fd fdW fdF : FuncData} {k : Nat} (hk : 1 ≤ k) (F : Fun K "law" "law" sLaw f fd) (T : Blt mg) (W : At P w K mg base 1 "_law_well" ["script", "place"] (spWell K) fW fdW)
    (G : FnG P w K mg base k fF fdF ["well"] spFits) (gF : mg "_law_fits" = some (.ref fF)) (kF : PySem.W.keepIn K (.ref fF) = true) (bF : Binds K fdF ["well"] []) : FnG P w K mg base (k + 1) f fd ["script"] (spLaw K) := by
  refine okG F scLaw (fun vs H Q E h => ?_) (fun cdv A outer s H vs Q E hgd hr h => ?_)
  · obtain ⟨a, ns, rfl, _⟩ := h
    rfl
  · obtain ⟨a, ns, rfl, hS, hl, q⟩ := h
    have hr1 : Room 1 _ := hr.mono hk
    refine ⟨_, pss_cons (ps_for PassesOwn.never rfl (pi_range1 (by rfl) T.range (pa_cons (pe_callB (call_max2 rfl) (by rfl) T.max (by decide +kernel) (pa_cons pe_int (pa_cons (pe_callB (call_min2 rfl) (by rfl) T.min (by decide +kernel)
          (pa_cons pe_int (pa_cons (pe_callB call_len_seq (by rfl) T.len PySem.boot_len (pa_cons (pv 0) pa_nil)) pa_nil))) pa_nil))) pa_nil)) (pg_name (i := 1) scLaw.nd rfl (.inl rfl))
        (pss_cons (ps_set (i := 2) scLaw.nd rfl (.inl rfl) (pe_call W.ok hr1 (by rfl) W.at_ W.kp W.bi .nil pass0 (pa_cons (pv 0) (pa_cons (pv 1) pa_nil))))
        (pss_one (ps_for PassesOwn.never rfl (pi_range1 (by rfl) T.range (pa_cons pe_int pa_nil)) (pg_name (i := 3) scLaw.nd rfl (.inl rfl))
          (pss_one (ps_if (pt_not (pt_val (pe_callG G hgd hr (by rfl) gF kF bF (pa_cons (pv 2) pa_nil)))) (pss_one (ps_ret pe_bl)) pss_nil))))))
      (pss_one (ps_ret pe_bl)), ?_⟩
    refine ⟨_, rfl, a, _, rfl, .inl hS.seq, 63, _, rfl, 1, _, rfl, ?_⟩
    generalize hm : (if (if (((ns.map V.int).length : Nat) : Int) < 63 then (((ns.map V.int).length : Nat) : Int) else 63) > 1 then (if (((ns.map V.int).length : Nat) : Int) < 63 then (((ns.map V.int).length : Nat) : Int) else 63) else 1) = m
    have m1 : 1 ≤ m ∧ m ≤ 63 := by
      rw [← hm]
      split <;> split <;> omega
    refine ⟨m, rfl, by omega, by omega, for_range (lo := 0) (n := m.toNat) (fun i σ J => ∃ y1 y2 y3 : Option V, σ = [some (.ref a), y1, y2, y3] ∧ Scr K J a (ns.map V.int)) ⟨none, none, none, rfl, hS⟩ ?_ ?_⟩
    · rintro i σ J hi ⟨y1, y2, y3, rfl, hJ⟩
      refine ⟨_, rfl, _, rfl, ⟨a, ns, _, rfl, hJ.seq, hl, by omega, by omega, fun p J1 np s1 w1 => ?_⟩⟩
      refine ⟨turns, rfl, by decide +kernel, by decide +kernel, for_range (lo := 0) (n := turns) (fun j σ J2 => ∃ y3 : Option V, σ = [some (.ref a), some (.int (0 + i)), some (.ref p), y3] ∧ Scr K J2 a (ns.map V.int) ∧ Well J2 p (j * 1000)) ⟨_, rfl, hJ.same s1, w1.mono (by omega)⟩ ?_ ?_⟩
      · rintro j σ J2 hj ⟨y3, rfl, hJ2, w2⟩
        have tb : turns ≤ 100 := by decide +kernel
        refine ⟨_, rfl, ⟨p, _, rfl, w2, by omega, fun J3 f3 w3 => ⟨_, rfl, ?_⟩⟩⟩
        exact ⟨_, rfl, hJ2.fr w2 f3, w3.mono (by omega)⟩
      · rintro σ J2 ⟨y3, rfl, hJ2, w2⟩
        exact ⟨_, _, _, rfl, hJ2⟩
    · rintro σ J ⟨y1, y2, y3, rfl, hJ⟩
      exact q J
end

/-! ### f(k = v, ..), keywords alone -/
section
variable {X : Cx} {k : Nat} {f : Addr} {fd : FuncData} {ps ks : List Str} {sp : Sp} {x : Str} {p pos : Pos} {kws : List Keyword} {tk : TA} {g : List Value → List Value → List Value} {gV : List V → List V → List V}
theorem pe_callKw (F : FnOk X.prog X.w X.K X.mg X.base CX0 k f fd ps sp) (hr : Room k X.A) (hg : Gl X x) (hm : X.mg x = some (.ref f)) (hk : PySem.W.keepIn X.K (.ref f) = true) (hb : KBn X.K fd ps 0 ks g gV) (hkw : PK X kws tk)
    (hall : (backToKw pos (keywordEach kws X.env)).all (·.1.isSome) = true := by rfl) (hks : (backToKw pos (keywordEach kws X.env)).filterMap (·.1) = ks := by rfl) (hdb : (x == ("__debug__" : Str)) = false := by decide)
    (hpl : ((backTo pos (starEach [] X.env)).any (·.1) || (backToKw pos (keywordEach kws X.env)).any (·.1.isNone)) = false := by rfl) :
    PE X (.Call (.Name x p) [] kws pos) (fun σ H Q => tk σ H fun zs H2 => zs.length = ks.length ∧ sp (gV [] zs) H2 Q E0) := by
  refine ⟨fun pins s σ H Q I h => ?_⟩
  refine wpAny_Call_Name_kw (ld_glob I hg hm ?_ hdb)
  refine PySem.W.callWith_KW0 (h₀ := X.base) I.ok.mod.kin hk hall ?_ hpl
  refine thn (hkw.run pos pins s σ H _ I h) fun ws s2 hh => ?_
  obtain ⟨zs, H2, I2, rz, l2, q2⟩ := hh
  refine ⟨I2.kIn, ?_⟩
  rw [hks]
  have lw : ws.length = ks.length := rz.length.symm.trans l2
  refine wpAny_call (codeAny_mono (F.run X.A X.stack s2 H2 ⟨[], ks.zip ws⟩ (g [] ws) (gV [] zs) Q E0 hr I2.env0 (hb.to s2 [] ws I2.kIn rfl lw) (hb.rel .nil rz) q2) fun res s3 hq => ?_)
  rcases res with er | fl
  · exact False.elim hq
  · rcases fl with _ | _ | _ | u
    iterate 3 exact False.elim hq
    exact I2.after hq
end
theorem vals_getD {vs : List V} {us : List Value} (r : Vals vs us) (i : Nat) : L2.RelV (vs.getD i V.non) (us.getD i Value.none) := by
  induction r generalizing i with
  | nil => cases i <;> exact (rfl : L2.RelV V.non Value.none)
  | cons a _ ih =>
    cases i with
    | zero => exact a
    | succ i => exact ih i
/-- three keywords: the parameters' places among them -/
def gK3 {α : Type} (z : α) (a b c : Nat) : List α → List α → List α := fun _ ws => [ws.getD a z, ws.getD b z, ws.getD c z]
theorem gK3_rel {a b c : Nat} {vs : List V} {us : List Value} {zs : List V} {ws : List Value} (_ : Vals vs us) (r : Vals zs ws) : Vals (gK3 V.non a b c vs zs) (gK3 Value.none a b c us ws) :=
  .cons (vals_getD r a) (.cons (vals_getD r b) (.cons (vals_getD r c) .nil))

/-! ### the mathematics of work -/
def tally (ps : List Int) (t : Int) : Int := t / ps.length * ps.sum + (ps.take (t % ps.length).toNat).sum
def gain (ps : List Int) (ms : List (Int × Int)) (lo hi : Int) : Int := ((ms.filter fun m => decide (lo ≤ m.1 ∧ m.1 < hi)).map fun m => m.2 - paceOf ps m.1).sum
def workOf (ps : List Int) (ms : List (Int × Int)) (lo hi : Int) : Int := tally ps hi - tally ps lo + gain ps ms lo hi
theorem take_sum_succ : ∀ {xs : List Int} {i : Nat} {v : Int}, xs[i]? = some v → (xs.take (i + 1)).sum = (xs.take i).sum + v
  | [], i, v, h => by simp at h
  | x :: xs, 0, v, h => by
    obtain rfl := Option.some.inj h
    simp
  | x :: xs, i + 1, v, h => by
    have ih := take_sum_succ (xs := xs) (i := i) h
    rw [List.take_succ_cons, List.take_succ_cons, List.sum_cons, List.sum_cons, ih]
    omega
theorem tally_step {ps : List Int} (h : 0 < ps.length) (t : Int) : tally ps (t + 1) = tally ps t + paceOf ps t := by
  have hn : (0 : Int) < ps.length := by omega
  have h0 := Int.emod_nonneg t (show (ps.length : Int) ≠ 0 by omega)
  have h1 := Int.emod_lt_of_pos t hn
  have hd := Int.mul_ediv_add_emod t ps.length
  obtain ⟨v, _, hv, _⟩ := atI_ints (xs := ps) h0 h1
  have hp : paceOf ps t = v := by
    unfold paceOf
    rw [List.getD_eq_getElem?_getD, hv]
    rfl
  have hs := take_sum_succ hv
  unfold tally
  rw [hp]
  generalize hq : t / ps.length = q at *
  generalize hr : t % ps.length = r at *
  by_cases c : r + 1 < ps.length
  · have e1 : (t + 1) / (ps.length : Int) = q := by
      rw [← hd]
      rw [show (ps.length : Int) * q + r + 1 = (r + 1) + (ps.length : Int) * q by omega, Int.add_mul_ediv_left _ _ (by omega), Int.ediv_eq_zero_of_lt (by omega) c]
      omega
    have e2 : (t + 1) % (ps.length : Int) = r + 1 := by
      rw [← hd]
      rw [show (ps.length : Int) * q + r + 1 = (r + 1) + (ps.length : Int) * q by omega, Int.add_mul_emod_self_left, Int.emod_eq_of_lt (by omega) c]
    rw [e1, e2, show (r + 1).toNat = r.toNat + 1 by omega, hs]
    omega
  · have er : r + 1 = ps.length := by omega
    have e1 : (t + 1) / (ps.length : Int) = q + 1 := by
      rw [← hd]
      rw [show (ps.length : Int) * q + r + 1 = (ps.length : Int) * (q + 1) by rw [Int.mul_add]; omega, Int.mul_ediv_cancel_left _ (by omega)]
    have e2 : (t + 1) % (ps.length : Int) = 0 := by
      rw [← hd]
      rw [show (ps.length : Int) * q + r + 1 = (ps.length : Int) * (q + 1) by rw [Int.mul_add]; omega, Int.mul_emod_right]
    have e3 : (ps.take (r.toNat + 1)).sum = ps.sum := by rw [List.take_of_length_le (by omega)]
    rw [e1, e2, Int.add_mul]
    have : (List.take (0 : Int).toNat ps).sum = 0 := rfl
    rw [this]
    omega
theorem gain_out {ps : List Int} {ms : List (Int × Int)} {lo hi t : Int} (h : ∀ m ∈ ms, t < m.1) (g : hi ≤ t + 1) : gain ps ms lo hi = 0 := by
  unfold gain
  rw [List.filter_eq_nil_iff.mpr fun m hm => by
    have := h m hm
    simp only [decide_eq_true_eq]
    omega]
  rfl
theorem gain_cons (ps : List Int) (m : Int × Int) (ms : List (Int × Int)) (lo hi : Int) : gain ps (m :: ms) lo hi = (if lo ≤ m.1 ∧ m.1 < hi then m.2 - paceOf ps m.1 else 0) + gain ps ms lo hi := by
  unfold gain
  rw [List.filter_cons]
  by_cases c : lo ≤ m.1 ∧ m.1 < hi
  · rw [if_pos (decide_eq_true c), if_pos c, List.map_cons, List.sum_cons]
  · rw [if_neg (by simpa using c), if_neg c]
    omega
theorem gain_step {ps : List Int} : ∀ {ms : List (Int × Int)} {lo hi : Int}, (ms.Pairwise fun a b => a.1 < b.1) → lo ≤ hi → gain ps ms lo (hi + 1) = gain ps ms lo hi + (speedAt ps ms hi - paceOf ps hi)
  | [], lo, hi, _, _ => by
    have : speedAt ps [] hi = paceOf ps hi := rfl
    rw [this]
    have e : gain ps [] lo (hi + 1) = gain ps [] lo hi := rfl
    omega
  | m :: ms, lo, hi, h, g => by
    have h2 := List.pairwise_cons.mp h
    have ih := gain_step (ps := ps) (ms := ms) (lo := lo) (hi := hi) h2.2 g
    rw [gain_cons, gain_cons, ih]
    by_cases e : m.1 = hi
    · have hit : ((m :: ms).find? fun m => decide (m.1 = hi)) = some m := by rw [List.find?_cons, decide_eq_true e]
      have miss : (ms.find? fun m => decide (m.1 = hi)) = none := List.find?_eq_none.mpr fun m' hm' e' => by
        have := h2.1 m' hm'
        have e2 : m'.1 = hi := by simpa using e'
        omega
      rw [speed_hit hit, speed_miss miss, if_pos (by omega), if_neg (by omega), e]
      omega
    · have miss : speedAt ps (m :: ms) hi = speedAt ps ms hi := by
        unfold speedAt
        rw [List.find?_cons, decide_eq_false e]
      rw [miss]
      by_cases c : lo ≤ m.1 ∧ m.1 < hi
      · rw [if_pos (by omega), if_pos c]
        omega
      · rw [if_neg (by omega), if_neg c]
        omega
/-- the speeds of k moments from lo on -/
def sumSp (ps : List Int) (ms : List (Int × Int)) (lo : Int) : Nat → Int
  | 0 => 0
  | k + 1 => sumSp ps ms lo k + speedAt ps ms (lo + k)
theorem gain_nil (ps : List Int) (ms : List (Int × Int)) (lo : Int) : gain ps ms lo lo = 0 := by
  unfold gain
  rw [List.filter_eq_nil_iff.mpr fun m hm => by
    simp only [decide_eq_true_eq]
    omega]
  rfl
theorem work_sum {ps : List Int} {ms : List (Int × Int)} (h : 0 < ps.length) (asc : ms.Pairwise fun a b => a.1 < b.1) (lo : Int) : ∀ k : Nat, workOf ps ms lo (lo + k) = sumSp ps ms lo k
  | 0 => by
    unfold workOf
    rw [show lo + ((0 : Nat) : Int) = lo by omega, gain_nil]
    show tally ps lo - tally ps lo + 0 = 0
    omega
  | k + 1 => by
    have ih := work_sum h asc lo k
    unfold workOf at ih ⊢
    have e : lo + ((k + 1 : Nat) : Int) = (lo + k) + 1 := by omega
    rw [e, tally_step h, gain_step asc (by omega)]
    show _ = sumSp ps ms lo k + speedAt ps ms (lo + k)
    omega
theorem sumSp_add (ps : List Int) (ms : List (Int × Int)) (lo : Int) (j : Nat) : ∀ k : Nat, sumSp ps ms lo (j + k) = sumSp ps ms lo j + sumSp ps ms (lo + j) k
  | 0 => by
    show sumSp ps ms lo j = sumSp ps ms lo j + 0
    omega
  | k + 1 => by
    have ih := sumSp_add ps ms lo j k
    show sumSp ps ms lo (j + k) + speedAt ps ms (lo + (j + k : Nat)) = sumSp ps ms lo j + (sumSp ps ms (lo + j) k + speedAt ps ms (lo + j + k))
    rw [ih, show lo + ((j + k : Nat) : Int) = lo + j + k by omega]
    omega
theorem sumSp_real {ps : List Int} {ms : List (Int × Int)} (asc : ms.Pairwise fun a b => a.1 < b.1) (lo : Int) : ∀ k : Nat, sumSp ps (realOf ps ms) lo k = sumSp ps ms lo k
  | 0 => rfl
  | k + 1 => by
    show sumSp ps (realOf ps ms) lo k + speedAt ps (realOf ps ms) (lo + k) = _
    rw [sumSp_real asc lo k, speed_real asc]
    rfl
theorem real_asc {ps : List Int} {ms : List (Int × Int)} (asc : ms.Pairwise fun a b => a.1 < b.1) : (realOf ps ms).Pairwise fun a b => a.1 < b.1 := asc.filter _
theorem sumSp_le {ps : List Int} {ms : List (Int × Int)} (hp : Paces ps) (fit : Fit ms) (lo : Int) : ∀ k : Nat, 0 ≤ sumSp ps ms lo k ∧ sumSp ps ms lo k ≤ 3 * k
  | 0 => ⟨Int.le_refl _, Int.le_refl _⟩
  | k + 1 => by
    have ih := sumSp_le hp fit lo k
    have := speed_lo hp fit (lo + k)
    show 0 ≤ sumSp ps ms lo k + speedAt ps ms (lo + k) ∧ sumSp ps ms lo k + speedAt ps ms (lo + k) ≤ 3 * ((k + 1 : Nat) : Int)
    omega

/-! ### the program's work -/
theorem cut_pre (xs : List V) {r : Int} (h : 0 ≤ r) : cutV xs none (some r) = xs.take r.toNat := by
  obtain ⟨k, rfl⟩ : ∃ k : Nat, r = (k : Int) := ⟨r.toNat, by omega⟩
  unfold cutV
  rw [HT.sIx_nat, HT.sIx_none, Nat.sub_zero, List.drop_zero]
  rw [List.take_eq_take_iff]
  simp only [Int.toNat_natCast]
  omega
structure Blt2 (mg : Str → Option Value) : Prop where
  sum : mg "sum" = none
  divmod : mg "divmod" = none
def spTally : Sp := fun vs H Q _ => ∃ (a : Addr) (ps : List Int) (t : Int), vs = [.ref a, .int t] ∧ H a = some (.lst (ps.map V.int)) ∧ Paces ps ∧ ∀ H', Same H H' → Q (.int (tally ps t)) H'
def spWWork : Sp := fun vs H Q _ => ∃ (a : Addr) (ps : List Int) (lo hi : Int), vs = [.ref a, .int lo, .int hi] ∧ H a = some (.lst (ps.map V.int)) ∧ Paces ps ∧ ∀ H', Same H H' → Q (.int (tally ps hi - tally ps lo)) H'
theorem sum_lo : ∀ {xs : List Int}, (∀ v ∈ xs, 0 ≤ v ∧ v ≤ 3) → 0 ≤ xs.sum ∧ xs.sum ≤ 3 * xs.length
  | [], _ => ⟨Int.le_refl _, Int.le_refl _⟩
  | x :: xs, h => by
    have ih := sum_lo (xs := xs) fun v hv => h v (List.mem_cons_of_mem _ hv)
    have := h x List.mem_cons_self
    rw [List.sum_cons, List.length_cons]
    omega
section
variable {P : Program} {w : World} {K : PySem.W.Frag} {mg : Str → Option Value} {base : Heap}
theorem scTally : FnScope ["speeds", "moment", "weeks", "rest"] ["speeds", "moment"] (defScope sTally) := ⟨rfl, rfl, rfl, by decide +kernel, rfl, by decide +kernel, by decide +kernel⟩
theorem ok_tally {f : Addr} {fd : FuncData} (F : Fun K "weekly_tally" "weekly_tally" sTally f fd) (T : Blt mg) (T2 : Blt2 mg) : FnOk P w K mg base CX0 1 f fd ["speeds", "moment"] spTally := by
  refine F.ok scTally (fun vs H Q E h => ?_) (fun cdv A outer s H vs Q E hr h => ?_)
  · obtain ⟨a, ps, t, rfl, _⟩ := h
    rfl
  · obtain ⟨a, ps, t, rfl, ha, hp, k⟩ := h
    refine ⟨_, pss_cons (ps_asg (pe_callB call_divmod (by rfl) T2.divmod (by decide +kernel) (pa_cons (pv 1) (pa_cons (pe_callB call_len_seq (by rfl) T.len PySem.boot_len (pa_cons (pv 0) pa_nil)) pa_nil))) (pg_tup rfl (pgs_cons (pg_name (i := 2) scTally.nd rfl (.inl rfl)) (pgs_cons (pg_name (i := 3) scTally.nd rfl (.inl rfl)) pgs_nil))))
      (pss_one (ps_ret (pe_op op_add (pe_op op_mul (pv 2) (pe_callB (cr_sum rfl) (by rfl) T2.sum (by decide +kernel) (pa_cons (pv 0) pa_nil))) (pe_callB (cr_sum rfl) (by rfl) T2.sum (by decide +kernel) (pa_cons (pe_slice sl_list (pv 0) po_none (po_some (pv 3))) pa_nil))))), ?_⟩
    have l0 := hp.len0
    have l1 := hp.len1
    have hz : (((ps.map V.int).length : Nat) : Int) = ps.length := by rw [List.length_map]
    have r0 := Int.emod_nonneg t (show (ps.length : Int) ≠ 0 by omega)
    refine ⟨_, rfl, _, rfl, a, _, rfl, .inl (SqL.of ha), t, (ps.length : Int), by rw [hz], ⟨by omega, by omega⟩, fun u nu => ⟨u, _, rfl, .inl (.inl upd_same), rfl, _, _, rfl, _, [], rfl, rfl, ?_⟩⟩
    have s1 := same_new (o := .tup [.int (t / ps.length), .int (t % ps.length)]) nu
    have hs := sum_lo hp.lo
    refine ⟨_, rfl, _, rfl, a, ps, rfl, SqL.of (s1 _ _ ha), _, _, rfl, rfl, .inr ⟨by omega, by omega⟩, _, rfl, _, rfl, _, rfl, a, _, rfl, SqL.of (s1 _ _ ha), fun c nc => ?_⟩
    rw [cut_pre _ r0, ← List.map_take]
    refine ⟨c, _, rfl, SqL.of upd_same, _, _, rfl, rfl, ?_⟩
    exact k _ (s1.trans (same_new nc))
theorem scWWork : FnScope ["speeds", "begin", "end"] ["speeds", "begin", "end"] (defScope sWWork) := ⟨rfl, rfl, rfl, by decide +kernel, rfl, by decide +kernel, by decide +kernel⟩
theorem ok_wwork {f fT : Addr} {fd dT : FuncData} (F : Fun K "weekly_work" "weekly_work" sWWork f fd) (Ta : At P w K mg base 1 "weekly_tally" ["speeds", "moment"] spTally fT dT) : FnOk P w K mg base CX0 2 f fd ["speeds", "begin", "end"] spWWork := by
  refine F.ok scWWork (fun vs H Q E h => ?_) (fun cdv A outer s H vs Q E hr h => ?_)
  · obtain ⟨a, ps, lo, hi, rfl, _⟩ := h
    rfl
  · obtain ⟨a, ps, lo, hi, rfl, ha, hp, k⟩ := h
    refine ⟨_, pss_one (ps_ret (pe_op op_sub (pe_call Ta.ok hr (by rfl) Ta.at_ Ta.kp Ta.bi .nil pass0 (pa_cons (pv 0) (pa_cons (pv 2) pa_nil))) (pe_call Ta.ok hr (by rfl) Ta.at_ Ta.kp Ta.bi .nil pass0 (pa_cons (pv 0) (pa_cons (pv 1) pa_nil))))), ?_⟩
    refine ⟨_, rfl, _, rfl, ⟨a, ps, hi, rfl, ha, hp, fun H1 s1 => ?_⟩⟩
    refine ⟨_, rfl, _, rfl, ⟨a, ps, lo, rfl, s1 _ _ ha, hp, fun H2 s2 => ⟨_, _, rfl, rfl, ?_⟩⟩⟩
    exact k H2 (s1.trans s2)
end

/-! ### the mathematics of ends -/
theorem gain_split {ps : List Int} : ∀ (ms : List (Int × Int)) {lo mid hi : Int}, lo ≤ mid → mid ≤ hi → gain ps ms lo hi = gain ps ms lo mid + gain ps ms mid hi
  | [], _, _, _, _, _ => rfl
  | m :: ms, lo, mid, hi, h1, h2 => by
    have ih := gain_split (ps := ps) ms h1 h2
    rw [gain_cons, gain_cons, gain_cons, ih]
    by_cases a : lo ≤ m.1 ∧ m.1 < mid
    · rw [if_pos (show lo ≤ m.1 ∧ m.1 < hi by omega), if_pos a, if_neg (show ¬ (mid ≤ m.1 ∧ m.1 < hi) by omega)]
      omega
    · by_cases b : mid ≤ m.1 ∧ m.1 < hi
      · rw [if_pos (show lo ≤ m.1 ∧ m.1 < hi by omega), if_neg a, if_pos b]
        omega
      · rw [if_neg (show ¬ (lo ≤ m.1 ∧ m.1 < hi) by omega), if_neg a, if_neg b]
        omega
theorem work_split {ps : List Int} (ms : List (Int × Int)) {lo mid hi : Int} (h1 : lo ≤ mid) (h2 : mid ≤ hi) : workOf ps ms lo hi = workOf ps ms lo mid + workOf ps ms mid hi := by
  unfold workOf
  rw [gain_split ms h1 h2]
  omega
theorem gain_zero {ps : List Int} : ∀ {ms : List (Int × Int)} {lo hi : Int}, (∀ m ∈ ms, m.1 < lo ∨ hi ≤ m.1) → gain ps ms lo hi = 0
  | [], _, _, _ => rfl
  | m :: ms, lo, hi, h => by
    rw [gain_cons, gain_zero (ms := ms) fun m' hm' => h m' (List.mem_cons_of_mem _ hm'), if_neg (by have := h m List.mem_cons_self; omega)]
    rfl
theorem tally_mono {ps : List Int} (hp : Paces ps) (t : Int) : ∀ k : Nat, tally ps t ≤ tally ps (t + k)
  | 0 => by rw [show t + ((0 : Nat) : Int) = t by omega]; exact Int.le_refl _
  | k + 1 => by
    have ih := tally_mono hp t k
    have e : t + ((k + 1 : Nat) : Int) = (t + k) + 1 := by omega
    have := hp.lo _ (pace_in (t := t + k) hp.len0)
    rw [e, tally_step hp.len0]
    omega
theorem tally_le {ps : List Int} (hp : Paces ps) {t u : Int} (h : t ≤ u) : tally ps t ≤ tally ps u := by
  have := tally_mono hp t (u - t).toNat
  rw [show t + (((u - t).toNat : Nat) : Int) = u by omega] at this
  exact this
theorem tally_weeks {ps : List Int} (h : 0 < ps.length) (t k : Int) : tally ps (t + k * ps.length) = tally ps t + k * ps.sum := by
  unfold tally
  rw [Int.add_mul_ediv_right _ _ (show (ps.length : Int) ≠ 0 by omega), Int.add_mul_emod_self_right, Int.add_mul]
  omega
theorem sum_pos {ps : List Int} (hp : Paces ps) : 1 ≤ ps.sum := by
  obtain ⟨v, hv, v0⟩ := hp.pos
  have lo := hp.lo
  clear hp
  have key : ∀ xs : List Int, (∀ u ∈ xs, 0 ≤ u ∧ u ≤ 3) → v ∈ xs → v ≤ xs.sum := by
    intro xs
    induction xs with
    | nil => exact fun _ h => absurd h List.not_mem_nil
    | cons x xs ih =>
      intro g h
      have s0 := (sum_lo (xs := xs) fun u hu => g u (List.mem_cons_of_mem _ hu)).1
      have x0 := g x List.mem_cons_self
      rw [List.sum_cons]
      rcases List.mem_cons.mp h with e | e
      · omega
      · have := ih (fun u hu => g u (List.mem_cons_of_mem _ hu)) e
        omega
  have := key ps lo hv
  have := lo v hv
  omega
theorem pace_sum {ps : List Int} (hp : Paces ps) (t : Int) : paceOf ps t ≤ ps.sum := by
  have e := tally_step hp.len0 t
  have h1 := tally_le hp (show t + 1 ≤ t + ps.length by have := hp.len0; omega)
  have h2 := tally_weeks hp.len0 t 1
  rw [show t + 1 * (ps.length : Int) = t + ps.length by omega] at h2
  omega
theorem gain_ge {ps : List Int} (hp : Paces ps) : ∀ {ms : List (Int × Int)} (lo hi : Int), (∀ m ∈ ms, 0 ≤ m.2 ∧ m.2 ≤ 3) → -(ms.length * ps.sum) ≤ gain ps ms lo hi
  | [], _, _, _ => by
    show -((0 : Int) * ps.sum) ≤ 0
    omega
  | m :: ms, lo, hi, h => by
    have ih := gain_ge hp (ms := ms) lo hi fun m' hm' => h m' (List.mem_cons_of_mem _ hm')
    have := h m List.mem_cons_self
    have := pace_sum hp m.1
    have := sum_pos hp
    rw [gain_cons, List.length_cons, show ((ms.length + 1 : Nat) : Int) = (ms.length : Int) + 1 by omega, Int.add_mul]
    split <;> omega
theorem work_weeks {ps : List Int} (hp : Paces ps) {ms : List (Int × Int)} (hv : ∀ m ∈ ms, 0 ≤ m.2 ∧ m.2 ≤ 3) (t : Int) (k : Nat) (h : ms.length ≤ k) : (k : Int) - ms.length ≤ workOf ps ms t (t + k * ps.length) := by
  unfold workOf
  have := gain_ge hp t (t + k * ps.length) hv
  have s1 := sum_pos hp
  rw [tally_weeks hp.len0]
  have e : ((k : Int) - ms.length) * 1 ≤ ((k : Int) - ms.length) * ps.sum := Int.mul_le_mul_of_nonneg_left s1 (by omega)
  rw [Int.mul_one, Int.sub_mul] at e
  omega
def IsEnd (ps : List Int) (ms : List (Int × Int)) (t a r : Int) : Prop := t ≤ r ∧ a ≤ workOf ps ms t r ∧ ∀ u, t ≤ u → u < r → workOf ps ms t u < a
theorem IsEnd.one {ps : List Int} {ms : List (Int × Int)} {t a r r' : Int} (h : IsEnd ps ms t a r) (g : IsEnd ps ms t a r') : r = r' := by
  rcases Int.lt_trichotomy r r' with c | c | c
  · have := g.2.2 r h.1 c
    have := h.2.1
    omega
  · exact c
  · have := h.2.2 r' g.1 c
    have := g.2.1
    omega
def BareEnd (ps : List Int) (b a r : Int) : Prop := b ≤ r ∧ a ≤ tally ps r - tally ps b ∧ ∀ u, b ≤ u → u < r → tally ps u - tally ps b < a
theorem work_real {ps : List Int} {ms : List (Int × Int)} (h : 0 < ps.length) (asc : ms.Pairwise fun a b => a.1 < b.1) {t r : Int} (g : t ≤ r) : workOf ps (realOf ps ms) t r = workOf ps ms t r := by
  have e1 := work_sum h (real_asc (ps := ps) asc) t (r - t).toNat
  have e2 := work_sum h asc t (r - t).toNat
  rw [show t + (((r - t).toNat : Nat) : Int) = r by omega] at e1 e2
  rw [e1, e2, sumSp_real asc]
theorem IsEnd.real {ps : List Int} {ms : List (Int × Int)} (h : 0 < ps.length) (asc : ms.Pairwise fun a b => a.1 < b.1) {t a r : Int} (g : IsEnd ps (realOf ps ms) t a r) : IsEnd ps ms t a r := by
  refine ⟨g.1, ?_, fun u h1 h2 => ?_⟩
  · rw [← work_real h asc g.1]
    exact g.2.1
  · rw [← work_real h asc h1]
    exact g.2.2 u h1 h2
theorem end_bound {ps : List Int} (hp : Paces ps) {ms : List (Int × Int)} (hv : ∀ m ∈ ms, 0 ≤ m.2 ∧ m.2 ≤ 3) {t a r : Int} {k : Nat} (h : ms.length ≤ k) (g : a ≤ (k : Int) - ms.length) (e : IsEnd ps ms t a r) : r ≤ t + k * ps.length := by
  rcases Int.lt_or_le (t + k * ps.length) r with c | c
  · have l0 := hp.len0
    have : (0 : Int) ≤ k * ps.length := Int.mul_nonneg (by omega) (by omega)
    have := e.2.2 _ (by omega) c
    have := work_weeks hp hv t k h
    omega
  · exact c
/-- what stands between the statements of the search for an end -/
structure Seek (ps : List Int) (ms : List (Int × Int)) (t a b lf : Int) : Prop where
  le : t ≤ b
  left : lf = a - workOf ps ms t b
  none : ∀ u, t ≤ u → u < b → workOf ps ms t u < a
theorem Seek.fin {ps : List Int} {ms : List (Int × Int)} {t a b lf r : Int} (s : Seek ps ms t a b lf) (e : BareEnd ps b lf r) (z : ∀ u, b ≤ u → u ≤ r → gain ps ms b u = 0) : IsEnd ps ms t a r := by
  have bare : ∀ u, b ≤ u → u ≤ r → workOf ps ms t u = workOf ps ms t b + (tally ps u - tally ps b) := fun u h1 h2 => by
    rw [work_split ms s.le h1]
    unfold workOf
    rw [z u h1 h2]
    omega
  have h0 := s.left
  have h1 := e.1
  have h2 := s.le
  refine ⟨by omega, ?_, fun u g1 g2 => ?_⟩
  · rw [bare r h1 (Int.le_refl _)]
    have := e.2.1
    omega
  · rcases Int.lt_or_le u b with c | c
    · exact s.none u g1 c
    · rw [bare u c (by omega)]
      have := e.2.2 u c g2
      omega
theorem Seek.next {ps : List Int} (hp : Paces ps) {ms : List (Int × Int)} (asc : ms.Pairwise fun a b => a.1 < b.1) {t a b lf : Int} (s : Seek ps ms t a b lf) {i : Nat} {m : Int × Int} (hm : ms[i]? = some m) (hb : b ≤ m.1)
    (hj : ∀ j : Nat, j < i → ∀ m', ms[j]? = some m' → m'.1 < b) (hl : tally ps m.1 - tally ps b < lf) : Seek ps ms t a (m.1 + 1) (lf - (tally ps m.1 - tally ps b) - m.2) := by
  have off : ∀ u, u ≤ m.1 → ∀ m' ∈ ms, m'.1 < b ∨ u ≤ m'.1 := fun u hu m' hm' => by
    obtain ⟨j, hj', e⟩ := List.getElem_of_mem hm'
    have hi : i < ms.length := (List.getElem?_eq_some_iff.mp hm).1
    have em : ms[i] = m := by rw [List.getElem?_eq_getElem hi] at hm; exact Option.some.inj hm
    rcases Nat.lt_trichotomy j i with c | c | c
    · exact .inl (hj j c m' (by rw [List.getElem?_eq_getElem hj', e]))
    · subst c
      rw [em] at e
      rw [← e]
      exact .inr hu
    · have := List.pairwise_iff_getElem.mp asc i j hi hj' c
      rw [em, e] at this
      exact .inr (by omega)
  have z : ∀ u, u ≤ m.1 → gain ps ms b u = 0 := fun u hu => gain_zero (off u hu)
  have bare : ∀ u, b ≤ u → u ≤ m.1 → workOf ps ms t u = workOf ps ms t b + (tally ps u - tally ps b) := fun u h1 h2 => by
    rw [work_split ms s.le h1]
    unfold workOf
    rw [z u h2]
    omega
  have h0 := s.left
  have h2 := s.le
  have sp : speedAt ps ms m.1 = m.2 := by
    refine speed_hit (find_at hm (List.find?_eq_none.mpr fun m' hm' e' => ?_) (decide_eq_true rfl))
    obtain ⟨j, hj', e⟩ := List.getElem_of_mem hm'
    rw [List.length_take] at hj'
    rw [List.getElem_take] at e
    have hi : i < ms.length := (List.getElem?_eq_some_iff.mp hm).1
    have em : ms[i] = m := by rw [List.getElem?_eq_getElem hi] at hm; exact Option.some.inj hm
    have := List.pairwise_iff_getElem.mp asc j i (by omega) hi (by omega)
    rw [e, em] at this
    have e2 : m'.1 = m.1 := by simpa using e'
    omega
  refine ⟨by omega, ?_, fun u g1 g2 => ?_⟩
  · rw [work_split ms s.le (show b ≤ m.1 + 1 by omega)]
    have : workOf ps ms b (m.1 + 1) = (tally ps m.1 - tally ps b) + m.2 := by
      unfold workOf
      rw [tally_step hp.len0, gain_step asc hb, z m.1 (Int.le_refl _), sp]
      omega
    omega
  · rcases Int.lt_or_le u b with c | c
    · exact s.none u g1 c
    · rw [bare u c (by omega)]
      have := tally_le hp (show u ≤ m.1 by omega)
      omega

/-! ### the program's due -/
def spAmount : Sp := fun vs H Q _ => ∃ a : Int, vs = [.int a] ∧ 0 ≤ a ∧ Q .non H
def spWDue : Sp := fun vs H Q _ => ∃ (a : Addr) (ps : List Int) (b lf : Int), vs = [.ref a, .int b, .int lf] ∧ H a = some (.lst (ps.map V.int)) ∧ Paces ps ∧ ∀ (r : Int) (H' : Hp), BareEnd ps b lf r → Same H H' → Q (.int r) H'
def spDue (C : Addr) : Sp := fun vs H Q _ => ∃ (x l d : Addr) (ps : List Int) (ms : List (Int × Int)) (t a : Int), vs = [.ref x, .int t, .int a] ∧ CalAt C H x l d ps ms ∧ Paces ps ∧ (ms.Pairwise fun a b => a.1 < b.1) ∧ 0 ≤ a ∧
  ∀ (r : Int) (H' : Hp), IsEnd ps ms t a r → Same H H' → Q (.int r) H'
section
variable {P : Program} {w : World} {K : PySem.W.Frag} {mg : Str → Option Value} {base : Heap}
theorem scAmount : FnScope ["amount"] ["amount"] (defScope sAmount) := ⟨rfl, rfl, rfl, by decide +kernel, rfl, by decide +kernel, by decide +kernel⟩
theorem ok_amount {f : Addr} {fd : FuncData} (F : Fun K "check_amount" "check_amount" sAmount f fd) : FnOk P w K mg base CX0 1 f fd ["amount"] spAmount := by
  refine F.ok scAmount (fun vs H Q E h => ?_) (fun cdv A outer s H vs Q E hr h => ?_)
  · obtain ⟨a, rfl, _⟩ := h
    rfl
  · obtain ⟨a, rfl, g, k⟩ := h
    refine ⟨_, pss_one (ps_if (pt_cmpR op_lt (pv 0) pe_int (nomark _)) (pss_one ps_never) pss_nil), ?_⟩
    refine ⟨_, rfl, _, _, rfl, rfl, _, rfl, ite2 (fun e => ?_) (fun _ => k)⟩
    have : a < 0 := of_decide_eq_true e
    omega
theorem scWDue : FnScope ["speeds", "begin", "left", "weeks", "end"] ["speeds", "begin", "left"] (defScope sWDue) := ⟨rfl, rfl, rfl, by decide +kernel, rfl, by decide +kernel, by decide +kernel⟩
def wdMu (top : Int) (σ : L2.St) : Nat := match σ[4]? with
  | some (some (V.int e)) => (top - e).toNat
  | _ => 0
theorem ok_wdue {f : Addr} {fd : FuncData} (F : Fun K "weekly_due" "weekly_due" sWDue f fd) (T : Blt mg) (T2 : Blt2 mg) : FnOk P w K mg base CX0 1 f fd ["speeds", "begin", "left"] spWDue := by
  refine F.ok scWDue (fun vs H Q E h => ?_) (fun cdv A outer s H vs Q E hr h => ?_)
  · obtain ⟨a, ps, b, lf, rfl, _⟩ := h
    rfl
  · obtain ⟨a, ps, b, lf, rfl, ha, hp, k⟩ := h
    refine ⟨_, pss_cons (ps_set (i := 3) scWDue.nd rfl (.inl rfl) (pe_op op_fdiv (pe_callB (call_max2 rfl) (by rfl) T.max (by decide +kernel) (pa_cons (pe_op op_sub (pv 2) pe_int) (pa_cons pe_int pa_nil))) (pe_callB (cr_sum rfl) (by rfl) T2.sum (by decide +kernel) (pa_cons (pv 0) pa_nil))))
      (pss_cons (ps_set (i := 2) scWDue.nd rfl (.inl rfl) (pe_op op_sub (pv 2) (pe_op op_mul (pv 3) (pe_callB (cr_sum rfl) (by rfl) T2.sum (by decide +kernel) (pa_cons (pv 0) pa_nil)))))
      (pss_cons (ps_set (i := 4) scWDue.nd rfl (.inl rfl) (pe_op op_add (pv 1) (pe_op op_mul (pv 3) (pe_callB call_len_seq (by rfl) T.len PySem.boot_len (pa_cons (pv 0) pa_nil)))))
      (pss_cons (ps_while PassesOwn.never (pt_cmpR op_gt (pv 2) pe_int (nomark _))
        (pss_cons (ps_set (i := 2) scWDue.nd rfl (.inl rfl) (pe_op op_sub (pv 2) (pe_ix ix_list (pv 0) (pe_op op_mod (pv 4) (pe_callB call_len_seq (by rfl) T.len PySem.boot_len (pa_cons (pv 0) pa_nil))) (fun _ _ => rfl))))
        (pss_one (ps_aug (i := 4) scWDue.nd rfl (.inl rfl) pe_int ip_add))))
      (pss_one (ps_ret (pv 4)))))), ?_⟩
    have l0 := hp.len0
    have l1 := hp.len1
    have hz : (((ps.map V.int).length : Nat) : Int) = ps.length := by rw [List.length_map]
    have s1 := sum_pos hp
    have s2 := (sum_lo hp.lo).2
    have sq : SqL K H a (ps.map V.int) := SqL.of ha
    refine ⟨_, rfl, _, _, rfl, rfl, _, _, rfl, _, rfl, a, ps, rfl, sq, _, _, rfl, rfl, ⟨by omega, by omega⟩, ?_⟩
    generalize hw : (if (0 : Int) > lf - 1 then (0 : Int) else lf - 1) / ps.sum = wk
    have wk0 : 0 ≤ wk := by
      rw [← hw]
      refine Int.ediv_nonneg ?_ (by omega)
      split <;> omega
    have wkS : wk * ps.sum ≤ (if (0 : Int) > lf - 1 then (0 : Int) else lf - 1) := by
      rw [← hw]
      exact Int.ediv_mul_le _ (by omega)
    have wkT : (if (0 : Int) > lf - 1 then (0 : Int) else lf - 1) < wk * ps.sum + ps.sum := by
      rw [← hw]
      have := Int.lt_ediv_add_one_mul_self (if (0 : Int) > lf - 1 then (0 : Int) else lf - 1) (show 0 < ps.sum by omega)
      rw [Int.add_mul] at this
      omega
    have tw := tally_weeks l0 b wk
    have tn := tally_weeks l0 (b + wk * ps.length) 1
    rw [show b + wk * (ps.length : Int) + 1 * ps.length = b + wk * ps.length + ps.length by omega] at tn
    refine ⟨_, rfl, _, rfl, _, rfl, a, ps, rfl, sq, _, _, rfl, rfl, .inr ⟨by omega, by omega⟩, _, _, rfl, rfl, ?_⟩
    refine ⟨_, rfl, _, rfl, _, rfl, a, _, rfl, .inl sq, _, _, rfl, rfl, .inr ⟨by rw [hz]; omega, by rw [hz]; omega⟩, _, _, rfl, rfl, ?_⟩
    rw [hz]
    have pos : (0 : Int) ≤ wk * ps.length := Int.mul_nonneg wk0 (by omega)
    generalize hb0 : b + wk * (ps.length : Int) = e0 at tw tn
    generalize hW : wk * ps.sum = wS at wkS wkT tw
    refine while_by (fun σ J => ∃ e lf' : Int, σ = [some (.ref a), some (.int b), some (.int lf'), some (.int wk), some (.int e)] ∧ J = H ∧ e0 ≤ e ∧ e ≤ e0 + ps.length ∧ lf' = lf - wS - (tally ps e - tally ps e0) ∧ (∀ u, e0 ≤ u → u < e → tally ps u - tally ps e0 < lf - wS))
      (fun σ _ => wdMu (e0 + ps.length) σ) ⟨e0, lf - wS, (by subst hb0; subst hW; subst hw; rfl), rfl, Int.le_refl _, by omega, by omega, fun u h1 h2 => by omega⟩ ?_ ?_
    · rintro σ J ⟨e, lf', rfl, rfl, g1, g2, g3, g4⟩
      refine ⟨_, rfl, _, _, rfl, rfl, _, rfl, ite2 (fun c => ?_) (fun c => ?_)⟩
      · have c0 : 0 < lf' := of_decide_eq_true c
        have ne : e < e0 + ps.length := by
          rcases Int.lt_or_le e (e0 + ps.length) with q | q
          · exact q
          · have : e = e0 + ps.length := by omega
            rw [this] at g3
            rw [tn] at g3
            split at wkT <;> omega
        refine ⟨_, rfl, _, rfl, _, rfl, _, rfl, a, _, rfl, .inl sq, _, _, rfl, rfl, by rw [hz]; omega, a, _, _, .int (paceOf ps e), rfl, rfl, sq, by rw [hz]; exact atI_pace l0, _, _, rfl, rfl, ?_⟩
        have ts := tally_step l0 e
        refine ⟨_, rfl, _, _, rfl, rfl, ⟨e + 1, lf' - paceOf ps e, rfl, rfl, by omega, by omega, by omega, fun u h1 h2 => ?_⟩, ?_⟩
        · rcases Int.lt_or_le u e with q | q
          · exact g4 u h1 q
          · have : u = e := by omega
            rw [this]
            omega
        · show (e0 + ps.length - (e + 1)).toNat < (e0 + ps.length - e).toNat
          omega
      · have c0 : lf' ≤ 0 := by
          rcases Int.lt_or_le 0 lf' with q | q
          · exact absurd (decide_eq_true q) c
          · exact q
        refine ⟨_, rfl, k e _ ⟨by omega, by omega, fun u h1 h2 => ?_⟩ (Same.refl _)⟩
        rcases Int.lt_or_le u e0 with q | q
        · have := tally_le hp (show u ≤ e0 by omega)
          by_cases d : lf ≤ 0
          · have hz2 : wk = 0 := by
              rw [if_pos (by omega), Int.zero_ediv] at hw
              omega
            rw [hz2] at hb0
            omega
          · rw [if_neg (by omega)] at wkS
            omega
        · have := g4 u q h2
          omega
    · rintro σ J Q' Q'' hq ⟨v, hv, i, j, e1, e2, kk, ek, q⟩
      exact ⟨v, hv, i, j, e1, e2, kk, ek, hq _ _ q⟩
theorem scDue : FnScope ["calendar", "moment", "amount", "speeds", "begin", "left", "changed", "speed", "before"] ["calendar", "moment", "amount"] (defScope sDue) := ⟨rfl, rfl, rfl, by decide +kernel, rfl, by decide +kernel, by decide +kernel⟩
theorem ok_due {f fA fW fD C p2 g2 p3 g3 : Addr} {fd dA dW dD d2 d3 : FuncData} (F : Fun K "due" "due" sDue f fd) (Z : Cal K mg C) (Am : At P w K mg base 1 "check_amount" ["amount"] spAmount fA dA)
    (Ww : At P w K mg base 2 "weekly_work" ["speeds", "begin", "end"] spWWork fW dW) (Wd : At P w K mg base 1 "weekly_due" ["speeds", "begin", "left"] spWDue fD dD)
    (W2 : Pp P w K mg base C "speeds" (spSpeeds C) p2 g2 d2) (W3 : Pp P w K mg base C "changes" (spChanges C) p3 g3 d3) :
    FnOk P w K mg base CX0 3 f fd ["calendar", "moment", "amount"] (spDue C) := by
  refine F.ok scDue (fun vs H Q E h => ?_) (fun cdv A outer s H vs Q E hr h => ?_)
  · obtain ⟨x, l, d, ps, ms, t, a, rfl, _⟩ := h
    rfl
  · obtain ⟨x, l, d, ps, ms, t, a, rfl, cal, hp, asc, a0, k⟩ := h
    have hr1 : Room 1 _ := hr.mono (by decide)
    refine ⟨_, pss_cons (ps_expr (pe_call Am.ok hr1 (by rfl) Am.at_ Am.kp Am.bi .nil pass0 (pa_cons (pv 2) pa_nil)))
      (pss_cons (ps_set (i := 3) scDue.nd rfl (.inl rfl) (pe_prop (pv 0) Z.cl W2.of W2.ok hr W2.bi .nil pass0 rfl))
      (pss_cons (ps_par (i := 4) (j := 5) rfl scDue.nd rfl rfl (by decide) rfl rfl (pa_cons (pv 1) (pa_cons (pv 2) pa_nil)) (by rfl))
      (C8.pss_cut (ps_for PassesOwn.never rfl (pi_list (pe_prop (pv 0) Z.cl W3.of W3.ok hr W3.bi .nil pass0 rfl)) (pg_tup rfl (pgs_cons (pg_name (i := 6) scDue.nd rfl (.inl rfl)) (pgs_cons (pg_name (i := 7) scDue.nd rfl (.inl rfl)) pgs_nil)))
        (pss_cons (ps_if (pt_cmpR op_lt (pv 6) (pv 4) (nomark _)) (pss_one ps_continue) pss_nil)
        (pss_cons (ps_set (i := 8) scDue.nd rfl (.inl rfl) (pe_call Ww.ok hr (by rfl) Ww.at_ Ww.kp Ww.bi .nil pass0 (pa_cons (pv 3) (pa_cons (pv 4) (pa_cons (pv 6) pa_nil)))))
        (pss_cons (ps_if (pt_cmpR op_ge (pv 8) (pv 5) (nomark _)) (pss_one ps_break) pss_nil)
        (pss_cons (ps_set (i := 5) scDue.nd rfl (.inl rfl) (pe_op op_sub (pe_op op_sub (pv 5) (pv 8)) (pv 7)))
        (pss_one (ps_set (i := 4) scDue.nd rfl (.inl rfl) (pe_op op_add (pv 6) pe_int))))))))
      (pss_one (ps_ret (pe_call Wd.ok hr1 (by rfl) Wd.at_ Wd.kp Wd.bi .nil pass0 (pa_cons (pv 3) (pa_cons (pv 4) (pa_cons (pv 5) pa_nil))))))))), ?_⟩
    obtain ⟨dx, hx⟩ := cal.ob
    refine ⟨_, rfl, ⟨a, rfl, a0, ?_⟩⟩
    refine ⟨_, rfl, x, dx, _, rfl, hx, ⟨x, l, d, ps, ms, rfl, cal, fun q nq => ?_⟩⟩
    have s1 := same_new (o := .lst (ps.map V.int)) nq
    refine ⟨_, rfl, _, rfl, _, _, rfl, ?_⟩
    have hq1 : (upd H q (.lst (ps.map V.int))) q = some (.lst (ps.map V.int)) := upd_same
    refine ⟨fun σ J => ∃ (b lf : Int) (y6 y7 y8 : Option V), σ = [some (.ref x), some (.int t), some (.int a), some (.ref q), some (.int b), some (.int lf), y6, y7, y8] ∧ J q = some (.lst (ps.map V.int)) ∧ Same H J ∧ Seek ps ms t a b lf ∧
      (∀ r, BareEnd ps b lf r → ∀ u, b ≤ u → u ≤ r → gain ps ms b u = 0), ?_, ?_⟩
    · refine ⟨_, rfl, x, dx, _, rfl, s1 _ _ hx, ⟨x, l, d, ps, ms, rfl, cal.same s1, fun H2 c ts s2 nc nt ct hc tp => ?_⟩⟩
      have tl := tp.len
      have sk0 : Seek ps ms t a t a := ⟨Int.le_refl _, by unfold workOf; rw [gain_nil]; omega, fun u h1 h2 => by omega⟩
      refine ⟨c, rfl, ⟨_, SqL.of hc⟩, for_list (K := K) (a := c) (xs := ts.map V.ref) (fun i σ J => ∃ (b lf : Int) (y6 y7 y8 : Option V), σ = [some (.ref x), some (.int t), some (.int a), some (.ref q), some (.int b), some (.int lf), y6, y7, y8] ∧ Same H2 J ∧ Seek ps ms t a b lf ∧ (∀ j : Nat, j < i → ∀ m', ms[j]? = some m' → m'.1 < b))
        ⟨t, a, none, none, none, rfl, Same.refl _, sk0, fun j hj => absurd hj (Nat.not_lt_zero _)⟩ (fun i σ J _ ⟨_, _, _, _, _, _, sJ, _⟩ => SqL.of (sJ _ _ hc)) ?_ ?_⟩
      · rintro i y σ J hi' ⟨b, lf, y6, y7, y8, rfl, sJ, sk, hj⟩
        have hi2 : i < ts.length := by
          have := (List.getElem?_eq_some_iff.mp hi').1
          simpa using this
        rw [List.getElem?_map, List.getElem?_eq_getElem hi2] at hi'
        obtain rfl := Option.some.inj hi'
        obtain ⟨m, hm, hm2⟩ := (tp.same sJ).get (List.getElem?_eq_getElem hi2)
        refine ⟨_, _, rfl, .inl (.inl hm2), rfl, _, _, rfl, _, [], rfl, rfl, ?_⟩
        refine ⟨_, rfl, _, rfl, _, _, rfl, rfl, _, rfl, ite2 (fun c1 => ?_) (fun c1 => ?_)⟩
        · have c2 : m.1 < b := of_decide_eq_true c1
          refine ⟨b, lf, _, _, _, rfl, sJ, sk, fun j hj' m' hm' => ?_⟩
          rcases Nat.lt_or_ge j i with z | z
          · exact hj j z m' hm'
          · have : j = i := by omega
            rw [this, hm] at hm'
            rw [← Option.some.inj hm']
            exact c2
        · have hb : b ≤ m.1 := by
            rcases Int.lt_or_le m.1 b with z | z
            · exact absurd (decide_eq_true z) c1
            · exact z
          refine ⟨_, rfl, _, rfl, _, rfl, ⟨q, ps, b, m.1, rfl, sJ _ _ (s2 _ _ hq1), hp, fun J2 sJ2 => ?_⟩⟩
          refine ⟨_, rfl, _, rfl, _, _, rfl, rfl, _, rfl, ite2 (fun c3 => ?_) (fun c3 => ?_)⟩
          · have c4 : lf ≤ tally ps m.1 - tally ps b := of_decide_eq_true c3
            refine ⟨b, lf, _, _, _, rfl, sJ2 _ _ (sJ _ _ (s2 _ _ hq1)), (s1.trans s2).trans (sJ.trans sJ2), sk, fun r hr' u h1 h2 => ?_⟩
            have rm : r ≤ m.1 := by
              rcases Int.lt_or_le m.1 r with z | z
              · have := hr'.2.2 m.1 hb z
                omega
              · exact z
            refine gain_zero fun m' hm' => ?_
            obtain ⟨j, hj', e⟩ := List.getElem_of_mem hm'
            have hi : i < ms.length := (List.getElem?_eq_some_iff.mp hm).1
            have em : ms[i] = m := by rw [List.getElem?_eq_getElem hi] at hm; exact Option.some.inj hm
            rcases Nat.lt_trichotomy j i with z | z | z
            · exact .inl (hj j z m' (by rw [List.getElem?_eq_getElem hj', e]))
            · subst z
              rw [em] at e
              rw [← e]
              exact .inr (by omega)
            · have := List.pairwise_iff_getElem.mp asc i j hi hj' z
              rw [em, e] at this
              exact .inr (by omega)
          · have c4 : tally ps m.1 - tally ps b < lf := by
              rcases Int.lt_or_le (tally ps m.1 - tally ps b) lf with z | z
              · exact z
              · exact absurd (decide_eq_true z) c3
            have sk2 := sk.next hp asc hm hb hj c4
            refine ⟨_, rfl, _, rfl, _, _, rfl, rfl, _, rfl, _, _, rfl, rfl, ?_⟩
            refine ⟨_, rfl, _, _, rfl, rfl, m.1 + 1, _, _, _, _, rfl, sJ.trans sJ2, sk2, fun j hj' m' hm' => ?_⟩
            rcases Nat.lt_or_ge j i with z | z
            · have := hj j z m' hm'
              omega
            · have : j = i := by omega
              rw [this, hm] at hm'
              rw [← Option.some.inj hm']
              omega
      · rintro σ J ⟨b, lf, y6, y7, y8, rfl, sJ, sk, hj⟩
        rw [List.length_map, tl] at hj
        refine ⟨b, lf, _, _, _, rfl, sJ _ _ (s2 _ _ hq1), (s1.trans s2).trans sJ, sk, fun r _ u h1 h2 => gain_zero fun m' hm' => ?_⟩
        obtain ⟨j, hj', e⟩ := List.getElem_of_mem hm'
        exact .inl (hj j hj' m' (by rw [List.getElem?_eq_getElem hj', e]))
    · rintro σ J ⟨b, lf, y6, y7, y8, rfl, hq2, sJ, sk, z⟩
      refine ⟨_, rfl, _, rfl, _, rfl, ⟨q, ps, b, lf, rfl, hq2, hp, fun r J2 e sJ2 => ?_⟩⟩
      exact k r J2 (sk.fin e (z r e)) (sJ.trans sJ2)
end

/-! ### a moment near the changes -/
theorem shaped_marks (ms : List (Int × Int)) : SeqAt.shaped (dMarks ms) = true := by
  have h1 : ∀ ms : List (Int × Int), PyData.canLayAll0 (ms.map fun m => PyData.tuple [.int m.1, .int m.2]) = true := by
    intro ms
    induction ms with
    | nil => rfl
    | cons m ms ih =>
      rw [List.map_cons]
      show (PyData.canLay0 (.tuple [.int m.1, .int m.2]) && PyData.canLayAll0 (ms.map fun m => PyData.tuple [.int m.1, .int m.2])) = true
      rw [ih]
      rfl
  have h2 : ∀ ms : List (Int × Int), PyData.depthAll (ms.map fun m => PyData.tuple [.int m.1, .int m.2]) ≤ 1 := by
    intro ms
    induction ms with
    | nil => exact Nat.zero_le _
    | cons m ms ih =>
      rw [List.map_cons]
      simp only [PyData.depthAll, PyData.depth]
      omega
  unfold SeqAt.shaped dMarks
  have e1 : PyData.canLay0 (.list (ms.map fun m => PyData.tuple [.int m.1, .int m.2])) = true := by
    simp only [PyData.canLay0]
    exact h1 ms
  have e2 : PyData.depth (.list (ms.map fun m => PyData.tuple [.int m.1, .int m.2])) ≤ 64 := by
    simp only [PyData.depth]
    have := h2 ms
    omega
  rw [e1, decide_eq_true e2]
  rfl
theorem eqv_none : PyData.eqv (dMarks []) (.list []) = true := rfl
theorem eqv_some (m : Int × Int) (ms : List (Int × Int)) : PyData.eqv (dMarks (m :: ms)) (.list []) = false := rfl
def spNear : Sp := fun vs H Q _ => ∃ (p b : Addr) (n : Nat) (ts : List Addr) (ms : List (Int × Int)) (back : Int), vs = [.ref p, .ref b, .int back] ∧ Well H p n ∧ n ≤ 10 ^ 7 ∧ H b = some (.lst (ts.map V.ref)) ∧ b ≠ p ∧ Tups H ts ms ∧
  (∀ m ∈ ms, -10 ^ 31 < m.1 ∧ m.1 < 10 ^ 31) ∧ ms.length ≤ 1000 ∧ 1 ≤ back ∧ back ≤ 1000 ∧
  ∀ (r : Int) (H' : Hp), -(2 * 10 ^ 31) < r → r < 2 * 10 ^ 31 → Fr p H H' → Well H' p (n + 10) → Q (.int r) H'
section
variable {P : Program} {w : World} {K : PySem.W.Frag} {mg : Str → Option Value} {base : Heap}
theorem scNear : FnScope ["well", "marks", "back", "way"] ["well", "marks", "back"] (defScope sNear) := ⟨rfl, rfl, rfl, by decide +kernel, rfl, by decide +kernel, by decide +kernel⟩
theorem ok_near {f fT fN : Addr} {fd fdT fdN : FuncData} (F : Fun K "_law_near" "_law_near" sNear f fd) (T : Blt mg) (L : Tk P w K mg base fT fdT) (B : Nb P w K mg base fN fdN) : FnOk P w K mg base CX0 3 f fd ["well", "marks", "back"] spNear := by
  refine F.ok scNear (fun vs H Q E h => ?_) (fun cdv A outer s H vs Q E hr h => ?_)
  · obtain ⟨p, b, n, ts, ms, back, rfl, _⟩ := h
    rfl
  · obtain ⟨p, b, n, ts, ms, back, rfl, hW, hn, hb, bp, tp, big, ml, b0, b1, k⟩ := h
    have hr1 : Room 1 _ := hr.mono (by decide)
    have hu := hr.units
    refine ⟨_, pss_cons (ps_set (i := 3) scNear.nd rfl (.inl rfl) (pe_call L.ok hr1 (by rfl) L.at_ L.kp L.bi .nil pass0 (pa_cons (pv 0) (pa_cons pe_int pa_nil))))
      (pss_cons (ps_if (PW.pt (pw_or (pt_cmpR (op_eqD hu) (pv 1) (pe_lst pa_nil) (nomark _)) (pw_or1 (pt_cmpR op_eq (pv 3) pe_int (nomark _))))) (pss_one (ps_ret (pe_call B.ok hr (by rfl) B.at_ B.kp B.bi .nil pass0 (pa_cons (pv 0) pa_nil)))) pss_nil)
      (pss_one (ps_ret (pe_op op_sub (pe_op op_add (pe_ix ix_tup (pe_ix ix_list (pv 1) (pe_call L.ok hr1 (by rfl) L.at_ L.kp L.bi .nil pass0 (pa_cons (pv 0) (pa_cons (pe_callB call_len_seq (by rfl) T.len PySem.boot_len (pa_cons (pv 1) pa_nil)) pa_nil))) (fun _ _ => rfl)) pe_int (fun _ _ => rfl)) pe_int)
        (pe_call L.ok hr1 (by rfl) L.at_ L.kp L.bi .nil pass0 (pa_cons (pv 0) (pa_cons (pv 2) pa_nil))))))), ?_⟩
    refine ⟨_, rfl, ⟨_, _, _, rfl, hW, (by omega), (by decide), (by decide), fun way H1 y0 y1 f1 w1 => ?_⟩⟩
    have hb1 := f1 _ _ hb bp
    have tp1 := tp.fr hW f1
    refine ⟨_, rfl, Nat.zero_le _, fun l hl => ?_⟩
    have s1 := same_new (o := .lst []) hl
    have w2 := w1.same s1
    have f2 := f1.trans (Fr.of s1)
    have number : ∀ (Q' : VK), (∀ (r : Int) (H' : Hp), -(2 * 10 ^ 31) < r → r < 2 * 10 ^ 31 → Fr p H H' → Well H' p (n + 10) → Q' (.int r) H') → spNumber [.ref p] (upd H1 l (.lst [])) Q' E0 := fun Q' q => ⟨p, _, rfl, w2, by omega, fun r H3 r0 r1 f3 w3 => q r H3 (by omega) (by omega) (f2.trans f3) (w3.mono (by omega))⟩
    refine ⟨dMarks ms, .list [], dp_marks (SqL.of (s1 _ _ hb1)) (tp1.same s1), .lst (SqL.of upd_same) .nil, shaped_marks ms, rfl, _, rfl, ?_⟩
    cases ms with
    | nil =>
      rw [eqv_none]
      exact ⟨_, rfl, number _ k⟩
    | cons m ms =>
      rw [eqv_some]
      refine ⟨_, rfl, rfl, _, rfl, ite2 (fun _ => ⟨_, rfl, number _ k⟩) (fun _ => ?_)⟩
      have tl := tp.len
      have hb2 := s1 _ _ hb1
      refine ⟨_, rfl, _, rfl, _, rfl, b, _, rfl, .inl (SqL.of hb2), ⟨_, _, _, rfl, w2, (by omega), by rw [List.length_map, tl, List.length_cons]; omega, by rw [List.length_map, tl]; omega, fun y H3 y0 y1 f3 w3 => ?_⟩⟩
      rw [List.length_map, tl] at y1
      obtain ⟨j, rfl⟩ : ∃ j : Nat, y = (j : Int) := ⟨y.toNat, by omega⟩
      have hj : j < ts.length := by omega
      have f23 := f2.trans f3
      obtain ⟨m', hm, hm2⟩ := (tp.fr hW f23).get (List.getElem?_eq_getElem hj)
      have hmb := big m' (List.mem_of_getElem? hm)
      refine ⟨b, _, _, .ref ts[j], rfl, rfl, SqL.of (f3 _ _ hb2 bp), atI_nat (j := j) (by rw [List.getElem?_map, List.getElem?_eq_getElem hj]; rfl), ts[j], _, 0, _, rfl, rfl, SqT.of hm2, atI_nat (j := 0) rfl, _, _, rfl, rfl, ?_⟩
      refine ⟨_, rfl, _, rfl, ⟨_, _, _, rfl, w3, (by omega), (by omega), (by omega), fun v H4 v0 v1 f4 w4 => ⟨_, _, rfl, rfl, ?_⟩⟩⟩
      exact k _ H4 (by omega) (by omega) (f23.trans f4) (w4.mono (by omega))
end

theorem Paces.fits {ps : List Int} (h : Paces ps) : ∀ v ∈ ps, -10 ^ 40 < v ∧ v < 10 ^ 40 := fun v hv => by have := h.lo v hv; omega
theorem Marks.fit {cap : Int} {ms : List (Int × Int)} (h : Marks cap ms) (g : cap ≤ 3) : Fit ms := ⟨h.asc, h.val, by have := h.len; omega⟩
/-- a new calendar, by the promise of its __init__ -/
theorem made_ok {K : PySem.W.Frag} {C : Addr} {H : Hp} {x dx a b : Addr} {ps : List Int} {ts : List Addr} {ms : List (Int × Int)} {vs : List V} {R : VK} {E : XK} (hv : vs = [.ref x, .ref a, .ref b]) (nx : H x = none) (ndx : H dx = none)
    (ha : H a = some (.lst (ps.map V.int))) (hb : H b = some (.lst (ts.map V.ref))) (tp : Tups H ts ms) (hp : Paces ps) (fit : Fit ms)
    (k : ∀ H' l d, CalAt C H' x l d ps (realOf ps ms) → H l = none → H d = none → Same H H' → R .non H') :
    spInit C K vs (upd (upd H dx (.own x)) x (.ins C dx [])) R E := by
  have s0 : Same H (upd (upd H dx (.own x)) x (.ins C dx [])) := fun c o e => by
    rw [upd_ne (ne_of_none e nx), upd_ne (ne_of_none e ndx)]
    exact e
  refine ⟨x, dx, a, b, ps, ts, ms, hv, upd_same, SqL.of (s0 _ _ ha), SqL.of (s0 _ _ hb), tp.same s0, hp, fit, ne_of_none ha nx, ne_of_none hb nx, fun H' l d cal nl nd f => ?_⟩
  exact k H' l d cal (s0.free nl) (s0.free nd) (Same.made nx ndx f)

/-! ### seen backwards -/
def mirM (ms : List (Int × Int)) : List (Int × Int) := (ms.map fun m => (-1 - m.1, m.2)).reverse
theorem pace_rev {ps : List Int} (h : 0 < ps.length) (t : Int) : paceOf ps.reverse t = paceOf ps (-1 - t) := by
  have hn : (ps.length : Int) ≠ 0 := by omega
  have h0 := Int.emod_nonneg t hn
  have h1 := Int.emod_lt_of_pos t (show (0 : Int) < ps.length by omega)
  have hd := Int.mul_ediv_add_emod t ps.length
  have e : (-1 - t) % (ps.length : Int) = ps.length - 1 - t % ps.length := by
    rw [show -1 - t = (ps.length - 1 - t % ps.length) + (ps.length : Int) * (-(t / ps.length) - 1) by rw [Int.mul_sub, Int.mul_neg]; omega, Int.add_mul_emod_self_left, Int.emod_eq_of_lt (by omega) (by omega)]
  unfold paceOf
  rw [List.length_reverse, e, List.getD_eq_getElem?_getD, List.getD_eq_getElem?_getD, List.getElem?_reverse (by omega)]
  rw [show ps.length - 1 - (t % (ps.length : Int)).toNat = ((ps.length : Int) - 1 - t % ps.length).toNat by omega]
theorem mir_asc {ms : List (Int × Int)} (h : ms.Pairwise fun a b => a.1 < b.1) : (mirM ms).Pairwise fun a b => a.1 < b.1 := by
  unfold mirM
  rw [List.pairwise_reverse, List.pairwise_map]
  exact h.imp fun g => by show -1 - _ < -1 - _; omega
theorem speed_of {ps : List Int} {ms : List (Int × Int)} (asc : ms.Pairwise fun a b => a.1 < b.1) {m : Int × Int} (h : m ∈ ms) : speedAt ps ms m.1 = m.2 := by
  refine speed_hit ?_
  induction ms with
  | nil => exact absurd h List.not_mem_nil
  | cons a ms ih =>
    have h2 := List.pairwise_cons.mp asc
    rw [List.find?_cons]
    rcases List.mem_cons.mp h with e | e
    · rw [e, decide_eq_true rfl]
    · have := h2.1 m e
      rw [decide_eq_false (by omega)]
      exact ih h2.2 e
theorem speed_none {ps : List Int} {ms : List (Int × Int)} {t : Int} (h : ∀ m ∈ ms, m.1 ≠ t) : speedAt ps ms t = paceOf ps t :=
  speed_miss (List.find?_eq_none.mpr fun m hm e => h m hm (by simpa using e))
theorem speed_mir {ps : List Int} (h : 0 < ps.length) {ms : List (Int × Int)} (asc : ms.Pairwise fun a b => a.1 < b.1) (t : Int) : speedAt ps.reverse (mirM ms) t = speedAt ps ms (-1 - t) := by
  by_cases c : ∃ m ∈ ms, m.1 = -1 - t
  · obtain ⟨m, hm, e⟩ := c
    have hm2 : ((-1 - m.1, m.2) : Int × Int) ∈ mirM ms := by
      unfold mirM
      rw [List.mem_reverse]
      exact List.mem_map.mpr ⟨m, hm, rfl⟩
    have e1 := speed_of (ps := ps.reverse) (mir_asc asc) hm2
    have e2 := speed_of (ps := ps) asc hm
    rw [← e, e2]
    rw [show t = -1 - m.1 by omega]
    exact e1
  · rw [speed_none (ms := ms) fun m hm e => c ⟨m, hm, e⟩, speed_none (ms := mirM ms) fun m hm e => ?_, pace_rev h]
    unfold mirM at hm
    rw [List.mem_reverse] at hm
    obtain ⟨m', hm', rfl⟩ := List.mem_map.mp hm
    refine c ⟨m', hm', ?_⟩
    have : -1 - m'.1 = t := e
    omega
theorem sumSp_front (ps : List Int) (ms : List (Int × Int)) (lo : Int) (k : Nat) : sumSp ps ms lo (k + 1) = speedAt ps ms lo + sumSp ps ms (lo + 1) k := by
  have := sumSp_add ps ms lo 1 k
  rw [show 1 + k = k + 1 by omega] at this
  rw [this]
  show 0 + speedAt ps ms (lo + ((0 : Nat) : Int)) + sumSp ps ms (lo + ((1 : Nat) : Int)) k = _
  rw [show lo + ((0 : Nat) : Int) = lo by omega, show lo + ((1 : Nat) : Int) = lo + 1 by omega]
  omega
theorem sum_mir {ps : List Int} (h : 0 < ps.length) {ms : List (Int × Int)} (asc : ms.Pairwise fun a b => a.1 < b.1) (t : Int) : ∀ k : Nat, sumSp ps.reverse (mirM ms) (-t) k = sumSp ps ms (t - k) k
  | 0 => rfl
  | k + 1 => by
    have ih := sum_mir h asc t k
    show sumSp ps.reverse (mirM ms) (-t) k + speedAt ps.reverse (mirM ms) (-t + k) = _
    rw [ih, speed_mir h asc, sumSp_front]
    rw [show t - ((k + 1 : Nat) : Int) + 1 = t - k by omega, show -1 - (-t + (k : Int)) = t - ((k + 1 : Nat) : Int) by omega]
    omega
theorem rev_paces {ps : List Int} (h : Paces ps) : Paces ps.reverse := by
  refine ⟨fun v hv => h.lo v (List.mem_reverse.mp hv), ?_, by rw [List.length_reverse]; exact h.len0, by rw [List.length_reverse]; exact h.len1⟩
  obtain ⟨v, hv, v0⟩ := h.pos
  exact ⟨v, List.mem_reverse.mpr hv, v0⟩
theorem mir_fit {ms : List (Int × Int)} (h : Fit ms) : Fit (mirM ms) := by
  refine ⟨mir_asc h.asc, fun m hm => ?_, by unfold mirM; rw [List.length_reverse, List.length_map]; exact h.len⟩
  unfold mirM at hm
  rw [List.mem_reverse] at hm
  obtain ⟨m', hm', rfl⟩ := List.mem_map.mp hm
  exact h.val m' hm'
def IsBegin (ps : List Int) (ms : List (Int × Int)) (t a b : Int) : Prop := b ≤ t ∧ a ≤ workOf ps ms b t ∧ ∀ u, b < u → u ≤ t → workOf ps ms u t < a
theorem work_mir {ps : List Int} (h : 0 < ps.length) {ms : List (Int × Int)} (asc : ms.Pairwise fun a b => a.1 < b.1) {t r : Int} (g : -t ≤ r) : workOf ps.reverse (mirM ms) (-t) r = workOf ps ms (-r) t := by
  have e1 := work_sum (ps := ps.reverse) (by rw [List.length_reverse]; exact h) (mir_asc asc) (-t) (r + t).toNat
  rw [show -t + (((r + t).toNat : Nat) : Int) = r by omega, sum_mir h asc] at e1
  have e2 := work_sum h asc (-r) (r + t).toNat
  rw [show -r + (((r + t).toNat : Nat) : Int) = t by omega] at e2
  rw [e1, e2, show t - (((r + t).toNat : Nat) : Int) = -r by omega]
theorem begin_of {ps : List Int} (h : 0 < ps.length) {ms : List (Int × Int)} (asc : ms.Pairwise fun a b => a.1 < b.1) {t a r : Int} (e : IsEnd ps.reverse (mirM ms) (-t) a r) : IsBegin ps ms t a (-r) := by
  have g := e.1
  refine ⟨by omega, ?_, fun u h1 h2 => ?_⟩
  · rw [← work_mir h asc g]
    exact e.2.1
  · have := e.2.2 (-u) (by omega) (by omega)
    rw [work_mir h asc (by omega), show - -u = u by omega] at this
    exact this
def IsNext (ps : List Int) (ms : List (Int × Int)) (t n : Int) : Prop := t ≤ n ∧ 0 < speedAt ps ms n ∧ ∀ u, t ≤ u → u < n → speedAt ps ms u = 0
def IsLast (ps : List Int) (ms : List (Int × Int)) (t n : Int) : Prop := n ≤ t ∧ 0 < speedAt ps ms n ∧ ∀ u, n < u → u ≤ t → speedAt ps ms u = 0
theorem IsNext.one {ps : List Int} {ms : List (Int × Int)} {t n n' : Int} (h : IsNext ps ms t n) (g : IsNext ps ms t n') : n = n' := by
  rcases Int.lt_trichotomy n n' with c | c | c
  · have := g.2.2 n h.1 c
    have := h.2.1
    omega
  · exact c
  · have := h.2.2 n' g.1 c
    have := g.2.1
    omega
theorem IsLast.one {ps : List Int} {ms : List (Int × Int)} {t n n' : Int} (h : IsLast ps ms t n) (g : IsLast ps ms t n') : n = n' := by
  rcases Int.lt_trichotomy n n' with c | c | c
  · have := h.2.2 n' c g.1
    have := g.2.1
    omega
  · exact c
  · have := g.2.2 n c h.1
    have := h.2.1
    omega
theorem work_one {ps : List Int} (h : 0 < ps.length) {ms : List (Int × Int)} (asc : ms.Pairwise fun a b => a.1 < b.1) (t : Int) : workOf ps ms t (t + 1) = speedAt ps ms t := by
  have := work_sum h asc t 1
  rw [show t + ((1 : Nat) : Int) = t + 1 by omega] at this
  rw [this]
  show 0 + speedAt ps ms (t + ((0 : Nat) : Int)) = _
  rw [show t + ((0 : Nat) : Int) = t by omega]
  omega
theorem work_pos {ps : List Int} (hp : Paces ps) {ms : List (Int × Int)} (fit : Fit ms) {t r : Int} (h : t ≤ r) : 0 ≤ workOf ps ms t r := by
  have e := work_sum hp.len0 fit.asc t (r - t).toNat
  rw [show t + (((r - t).toNat : Nat) : Int) = r by omega] at e
  rw [e]
  exact (sumSp_le hp fit t _).1
theorem speed_work {ps : List Int} (hp : Paces ps) {ms : List (Int × Int)} (fit : Fit ms) {t u r : Int} (h1 : t ≤ u) (h2 : u < r) : speedAt ps ms u ≤ workOf ps ms t r := by
  rw [work_split ms h1 (show u ≤ r by omega), work_split ms (show u ≤ u + 1 by omega) (show u + 1 ≤ r by omega), work_one hp.len0 fit.asc]
  have := work_pos hp fit h1
  have := work_pos hp fit (show u + 1 ≤ r by omega)
  omega
theorem next_of {ps : List Int} (hp : Paces ps) {ms : List (Int × Int)} (fit : Fit ms) {t r : Int} (e : IsEnd ps ms t 1 r) : IsNext ps ms t (r - 1) := by
  have ne : t < r := by
    rcases Int.lt_or_le t r with c | c
    · exact c
    · have h1 := e.1
      have : r = t := by omega
      have h2 := e.2.1
      rw [this] at h2
      unfold workOf at h2
      rw [gain_nil] at h2
      omega
  have z := e.2.2 (r - 1) (by omega) (by omega)
  have w1 := e.2.1
  rw [work_split ms (show t ≤ r - 1 by omega) (show r - 1 ≤ r by omega)] at w1
  have w2 := work_one hp.len0 fit.asc (r - 1)
  rw [show r - 1 + 1 = r by omega] at w2
  refine ⟨by omega, by omega, fun u h1 h2 => ?_⟩
  have := speed_work hp fit h1 h2
  have := (speed_lo hp fit u).1
  omega
theorem last_of {ps : List Int} (hp : Paces ps) {ms : List (Int × Int)} (fit : Fit ms) {t b : Int} (e : IsBegin ps ms (t + 1) 1 b) : IsLast ps ms t b := by
  have ne : b < t + 1 := by
    rcases Int.lt_or_le b (t + 1) with c | c
    · exact c
    · have h1 := e.1
      have : b = t + 1 := by omega
      have h2 := e.2.1
      rw [this] at h2
      unfold workOf at h2
      rw [gain_nil] at h2
      omega
  have z := e.2.2 (b + 1) (by omega) (by omega)
  have w1 := e.2.1
  rw [work_split ms (show b ≤ b + 1 by omega) (show b + 1 ≤ t + 1 by omega), work_one hp.len0 fit.asc] at w1
  refine ⟨by omega, by omega, fun u h1 h2 => ?_⟩
  have := speed_work hp fit (show b + 1 ≤ u by omega) (show u < t + 1 by omega)
  have := (speed_lo hp fit u).1
  omega
theorem sum_zero {ps : List Int} {ms : List (Int × Int)} {lo : Int} : ∀ k : Nat, (∀ u, lo ≤ u → u < lo + k → speedAt ps ms u = 0) → sumSp ps ms lo k = 0
  | 0, _ => rfl
  | k + 1, h => by
    show sumSp ps ms lo k + speedAt ps ms (lo + k) = 0
    rw [sum_zero k fun u h1 h2 => h u h1 (by omega), h (lo + k) (by omega) (by omega)]
    rfl
theorem some_open {ps : List Int} (hp : Paces ps) {ms : List (Int × Int)} (fit : Fit ms) (ml : ms.length ≤ 3) (lo : Int) (h : ∀ u, lo ≤ u → u < lo + (4 : Nat) * ps.length → speedAt ps ms u = 0) : False := by
  have w := work_weeks hp fit.val lo 4 (by omega)
  have e := work_sum hp.len0 fit.asc lo (4 * ps.length)
  rw [sum_zero (4 * ps.length) fun u h1 h2 => h u h1 (by omega)] at e
  rw [show lo + ((4 * ps.length : Nat) : Int) = lo + (4 : Nat) * ps.length by omega] at e
  omega
theorem Tups.rev {H : Hp} : ∀ {ts : List Addr} {ms : List (Int × Int)}, Tups H ts ms → Tups H ts.reverse ms.reverse
  | [], [], _ => trivial
  | t :: ts, m :: ms, h => by
    rw [List.reverse_cons, List.reverse_cons]
    exact (Tups.rev h.2).snoc h.1

/-! ### a calendar moved -/
def movP (ps : List Int) (s : Int) : List Int := (List.range ps.length).map fun (i : Nat) => paceOf ps ((i : Int) - s)
def movM (ms : List (Int × Int)) (s : Int) : List (Int × Int) := ms.map fun m => (m.1 + s, m.2)
theorem movP_len (ps : List Int) (s : Int) : (movP ps s).length = ps.length := by unfold movP; rw [List.length_map, List.length_range]
theorem pace_congr {ps : List Int} {t u k : Int} (h : t = u + ps.length * k) : paceOf ps t = paceOf ps u := by
  unfold paceOf
  rw [h, Int.add_mul_emod_self_left]
theorem movP_pace {ps : List Int} (h : 0 < ps.length) (s t : Int) : paceOf (movP ps s) t = paceOf ps (t - s) := by
  have hn : (ps.length : Int) ≠ 0 := by omega
  have h0 := Int.emod_nonneg t hn
  have h1 := Int.emod_lt_of_pos t (show (0 : Int) < ps.length by omega)
  have hd := Int.mul_ediv_add_emod t ps.length
  have e : paceOf (movP ps s) t = paceOf ps (((t % ps.length).toNat : Nat) - s) := by
    conv => lhs; unfold paceOf
    rw [movP_len, List.getD_eq_getElem?_getD]
    unfold movP
    rw [List.getElem?_map, List.getElem?_range (by omega)]
    rfl
  rw [e]
  refine (pace_congr (k := t / ps.length) ?_).symm
  omega
theorem movP_ok {ps : List Int} (hp : Paces ps) (s : Int) : Paces (movP ps s) := by
  refine ⟨fun v hv => ?_, ?_, by rw [movP_len]; exact hp.len0, by rw [movP_len]; exact hp.len1⟩
  · obtain ⟨i, _, rfl⟩ := List.mem_map.mp hv
    exact hp.lo _ (pace_in hp.len0)
  · obtain ⟨v, hv, v0⟩ := hp.pos
    obtain ⟨j, hj, e⟩ := List.getElem_of_mem hv
    have hn : (0 : Int) < ps.length := by omega
    have ej : paceOf ps j = v := by
      unfold paceOf
      rw [Int.emod_eq_of_lt (by omega) (by omega), List.getD_eq_getElem?_getD, show ((j : Int)).toNat = j by omega, List.getElem?_eq_getElem hj, e]
      rfl
    refine ⟨v, ?_, v0⟩
    have : paceOf (movP ps s) (j + s) = v := by
      rw [movP_pace hp.len0, show (j : Int) + s - s = j by omega]
      exact ej
    rw [← this]
    exact pace_in (by rw [movP_len]; exact hp.len0)
theorem movM_fit {ms : List (Int × Int)} (h : Fit ms) (s : Int) : Fit (movM ms s) := by
  refine ⟨?_, fun m hm => ?_, by unfold movM; rw [List.length_map]; exact h.len⟩
  · unfold movM
    rw [List.pairwise_map]
    exact h.asc.imp fun g => by show _ + s < _ + s; omega
  · obtain ⟨m', hm', rfl⟩ := List.mem_map.mp hm
    exact h.val m' hm'
theorem mov_speed {ps : List Int} (h : 0 < ps.length) (ms : List (Int × Int)) (s t : Int) : speedAt (movP ps s) (movM ms s) t = speedAt ps ms (t - s) := by
  induction ms with
  | nil => exact movP_pace h s t
  | cons m ms ih =>
    unfold speedAt movM at *
    rw [List.map_cons, List.find?_cons, List.find?_cons]
    by_cases c : m.1 = t - s
    · rw [decide_eq_true c, decide_eq_true (show m.1 + s = t by omega)]
      rfl
    · rw [decide_eq_false c, decide_eq_false (show ¬ m.1 + s = t by omega)]
      exact ih
/-- a calendar whose speeds are those of ps and ks -/
structure CalOf (C : Addr) (H : Hp) (x l d : Addr) (ps : List Int) (ks rs : List (Int × Int)) : Prop where
  cal : CalAt C H x l d ps rs
  fit : Fit rs
  sp : ∀ t, speedAt ps rs t = speedAt ps ks t
theorem CalOf.same {C : Addr} {H H' : Hp} {x l d : Addr} {ps : List Int} {ks rs : List (Int × Int)} (h : CalOf C H x l d ps ks rs) (f : Same H H') : CalOf C H' x l d ps ks rs := ⟨h.cal.same f, h.fit, h.sp⟩
theorem sumSp_cong {ps : List Int} {rs ks : List (Int × Int)} (h : ∀ t, speedAt ps rs t = speedAt ps ks t) (lo : Int) : ∀ k : Nat, sumSp ps rs lo k = sumSp ps ks lo k
  | 0 => rfl
  | k + 1 => by
    show sumSp ps rs lo k + speedAt ps rs (lo + k) = _
    rw [sumSp_cong h lo k, h]
    rfl
theorem work_cong {ps : List Int} (l0 : 0 < ps.length) {rs ks : List (Int × Int)} (a1 : rs.Pairwise fun a b => a.1 < b.1) (a2 : ks.Pairwise fun a b => a.1 < b.1) (h : ∀ t, speedAt ps rs t = speedAt ps ks t) {t r : Int} (g : t ≤ r) : workOf ps rs t r = workOf ps ks t r := by
  have e1 := work_sum l0 a1 t (r - t).toNat
  have e2 := work_sum l0 a2 t (r - t).toNat
  rw [show t + (((r - t).toNat : Nat) : Int) = r by omega] at e1 e2
  rw [e1, e2, sumSp_cong h]
theorem realFit {ps : List Int} {ms : List (Int × Int)} (h : Fit ms) : Fit (realOf ps ms) := ⟨real_asc h.asc, fun m hm => h.val m (List.mem_filter.mp hm).1, Nat.le_trans (List.length_filter_le _ _) h.len⟩
theorem calOf_real {C : Addr} {H : Hp} {x l d : Addr} {ps : List Int} {ms : List (Int × Int)} (h : CalAt C H x l d ps (realOf ps ms)) (f : Fit ms) : CalOf C H x l d ps ms (realOf ps ms) := ⟨h, realFit f, fun t => speed_real f.asc⟩
def spMoved (C : Addr) : Sp := fun vs H Q _ => ∃ (x l d : Addr) (ps : List Int) (ms : List (Int × Int)) (s : Int), vs = [.ref x, .int s] ∧ CalAt C H x l d ps ms ∧ Paces ps ∧ Fit ms ∧
  ∀ (H' : Hp) (y l' d' : Addr), Same H H' → CalAt C H' y l' d' (movP ps s) (realOf (movP ps s) (movM ms s)) → H y = none → H l' = none → H d' = none → Q (.ref y) H'
section
variable {P : Program} {w : World} {K : PySem.W.Frag} {mg : Str → Option Value} {base : Heap}
theorem scMoved : FnScope ["self", "number", "week", "speeds", "at", "speed"] ["self", "number"] (defScope sMoved) := ⟨rfl, rfl, rfl, by decide +kernel, rfl, by decide +kernel, by decide +kernel⟩
theorem ok_moved {f fI C p1 g1 p3 g3 : Addr} {fd dI d1 d3 : FuncData} (F : Fun K "moved" "Calendar.moved" sMoved f fd) (T : Blt mg) (Z : Cal K mg C) (MK : Mk K C fI) (GI : FnOk P w K mg base CX0 3 fI dI ["self", "speeds", "changes"] (spInit C K)) (bI : Binds K dI ["self", "speeds", "changes"] [])
    (W1 : Pp P w K mg base C "week" (spWeek C) p1 g1 d1) (W3 : Pp P w K mg base C "changes" (spChanges C) p3 g3 d3) : FnOk P w K mg base CX0 5 f fd ["self", "number"] (spMoved C) := by
  refine F.ok scMoved (fun vs H Q E h => ?_) (fun cdv A outer s H vs Q E hr h => ?_)
  · obtain ⟨x, l, d, ps, ms, s, rfl, _⟩ := h
    rfl
  · obtain ⟨x, l, d, ps, ms, sh, rfl, cal, hp, fit, k⟩ := h
    have hr2 : Room 2 _ := hr.mono (by decide)
    refine ⟨_, pss_cons (ps_set (i := 2) scMoved.nd rfl (.inr rfl) (pe_prop (pv 0) Z.cl W1.of W1.ok hr2 W1.bi .nil pass0 rfl))
      (pss_cons (ps_setLc (i := 3) (own := [("at", 4)]) (g := gName 4) (tt := tYes) (te := tOp (rIxL K) (tFld K (tVar 0) "_speeds") (tOp (rI (fun _ j => 0 < j) fun i j => V.int (i % j)) (tOp (rI0 fun i j => V.int (i - j)) (tVar 4) (tVar 1)) (tVar 2))) rfl scMoved.nd rfl rfl (sw_true rfl rfl rfl (by decide +kernel)) (pi_range1 (by rfl) T.range (pa_cons (pv 2) pa_nil))
          (blkOk_by (N := ["self", "number", "week", "speeds", "at", "speed"]) (sc := defScope sMoved) (by decide +kernel)) (fun _ _ _ _ _ => pg_name (i := 4) scMoved.nd rfl (.inl rfl)) (fun _ _ _ _ _ => pts_nil)
          (fun _ _ _ _ _ => pe_ix (r := rIxL K) ix_list (pe_fld (pv 0) rfl) (pe_op op_mod (pe_op op_sub (pv 4) (pv 1)) (pv 2)) (fun _ _ => rfl)))
      (pss_one (ps_ret (pe_make MK GI hr (by rfl) Z.at_ bI .nil pass0 (pa_cons (pv 3) (pa_cons (pe_lc (own := [("at", 4), ("speed", 5)]) (g := gTup K 2 (gCons (gName 4) (gCons (gName 5) gNil))) (tt := tYes) rfl scMoved.nd (pi_list (pe_prop (pv 0) Z.cl W3.of W3.ok hr2 W3.bi .nil pass0 rfl))
          (blkOk_by (N := ["self", "number", "week", "speeds", "at", "speed"]) (sc := defScope sMoved) (by decide +kernel))
          (fun _ _ _ _ _ => pg_tup rfl (pgs_cons (pg_name (i := 4) scMoved.nd rfl (.inl rfl)) (pgs_cons (pg_name (i := 5) scMoved.nd rfl (.inl rfl)) pgs_nil))) (fun _ _ _ _ _ => pts_nil)
          (fun _ _ _ _ _ => pe_tup (pa_cons (pe_op op_add (pv 4) (pv 1)) (pa_cons (pv 5) pa_nil)))) pa_nil)))))), ?_⟩
    obtain ⟨dx, hx⟩ := cal.ob
    have l0 := hp.len0
    have l1 := hp.len1
    refine ⟨_, rfl, x, dx, _, rfl, hx, ⟨x, l, d, ps, ms, rfl, cal, ?_⟩⟩
    refine ⟨_, rfl, (ps.length : Int), rfl, by omega, by omega, fun D hD => lc_range (lo := 0) (n := (ps.length : Int).toNat) (fun i J => J D = some (.lst (((List.range i).map fun (j : Nat) => paceOf ps ((j : Int) - sh)).map V.int)) ∧ Same H J) ⟨upd_same, same_new hD⟩ ?_ ?_⟩
    · rintro i J hi ⟨hJ, sJ⟩
      have cJ := cal.same sJ
      obtain ⟨dJ, hxJ⟩ := cJ.ob
      refine ⟨rfl, _, rfl, x, C, dJ, _, _, rfl, hxJ, Z.cl, Z.nS, calF_s l d, _, rfl, _, rfl, _, _, rfl, rfl, _, rfl, _, _, rfl, rfl, (by show (0 : Int) < ps.length; omega), l, _, _, .int (paceOf ps ((0 : Int) + i - sh)), rfl, rfl, SqL.of cJ.ls, atI_pace l0, ?_⟩
      refine ⟨_, hJ, by rw [List.length_map, List.length_map, List.length_range]; exact small1000 (by omega), ?_, fun c o e => ?_⟩
      · rw [upd_same, List.range_succ, List.map_append, List.map_append, show (0 : Int) + i - sh = i - sh by omega]
        rfl
      · rw [upd_ne (ne_of_none e hD)]
        exact sJ c o e
    · rintro J ⟨hJ, sJ⟩
      have hJ' : J D = some (.lst ((movP ps sh).map V.int)) := hJ
      refine ⟨_, rfl, _, rfl, x, dx, _, rfl, sJ _ _ hx, ⟨x, l, d, ps, ms, rfl, cal.same sJ, fun H1 b ts s1 nb nt bt hb tp => ?_⟩⟩
      have tl := tp.len
      have sH1 := sJ.trans s1
      refine ⟨b, rfl, ⟨_, SqL.of hb⟩, fun E hE => lc_list (K := K) (a := b) (xs := ts.map V.ref) (fun i J2 => ∃ us : List Addr, J2 E = some (.lst (us.map V.ref)) ∧ Tups J2 us (movM (ms.take i) sh) ∧ Same H1 J2)
        ⟨[], upd_same, trivial, same_new hE⟩ (fun i J2 _ ⟨_, _, _, h⟩ => SqL.of (h _ _ hb)) ?_ ?_⟩
      · rintro i y J2 hi' ⟨us, hU, hus, sU⟩
        have hi2 : i < ts.length := by
          have := (List.getElem?_eq_some_iff.mp hi').1
          simpa using this
        rw [List.getElem?_map, List.getElem?_eq_getElem hi2] at hi'
        obtain rfl := Option.some.inj hi'
        obtain ⟨m, hm, hm2⟩ := (tp.same sU).get (List.getElem?_eq_getElem hi2)
        have et : ms.take (i + 1) = ms.take i ++ [m] := by rw [List.take_add_one, hm]; rfl
        refine ⟨_, _, rfl, .inl (.inl hm2), rfl, _, _, rfl, _, [], rfl, rfl, rfl, ?_⟩
        refine ⟨_, rfl, _, rfl, _, _, rfl, rfl, _, rfl, (by show 2 ≤ sizeLine; decide), fun u nu => ?_⟩
        have gu := same_new (o := .tup [.int (m.1 + sh), .int m.2]) nu
        have ul := hus.len
        unfold movM at ul
        rw [List.length_map, List.length_take] at ul
        have := fit.len
        refine ⟨_, gu _ _ hU, by rw [List.length_map]; exact small1000 (by omega), us ++ [u], ?_, ?_, fun c o e => ?_⟩
        · rw [upd_same, List.map_append]
          rfl
        · rw [et]
          unfold movM at hus ⊢
          rw [List.map_append]
          exact ((hus.same gu).snoc (m := (m.1 + sh, m.2)) upd_same).put (gu _ _ hU)
        · rw [upd_ne (ne_of_none e hE)]
          exact gu _ _ (sU c o e)
      · rintro J2 ⟨us, hU, hus, sU⟩
        rw [List.length_map, tl, List.take_length] at hus
        have sAll := sH1.trans sU
        refine fun y dy ny ndy _ => made_ok rfl ny ndy (sU _ _ (s1 _ _ hJ')) hU hus (movP_ok hp sh) (movM_fit fit sh) fun H' l' d' cal' nl nd s5 => ⟨rfl, ?_⟩
        exact k H' y l' d' (sAll.trans s5) cal' (sAll.free ny) (sAll.free nl) (sAll.free nd)
end

/-! ### a law's own work -/
def spTotal : Sp := fun vs H Q _ => ∃ (a b : Addr) (ps : List Int) (ts : List Addr) (ms : List (Int × Int)) (lo hi : Int), vs = [.ref a, .ref b, .int lo, .int hi] ∧ H a = some (.lst (ps.map V.int)) ∧ H b = some (.lst (ts.map V.ref)) ∧ Tups H ts ms ∧ Paces ps ∧ lo ≤ hi ∧
  Q (.int (workOf ps ms lo hi)) H
theorem gain_snoc {ps : List Int} {m : Int × Int} {lo hi : Int} : ∀ {ms : List (Int × Int)}, gain ps (ms ++ [m]) lo hi = gain ps ms lo hi + (if lo ≤ m.1 ∧ m.1 < hi then m.2 - paceOf ps m.1 else 0)
  | [] => by
    rw [List.nil_append, gain_cons]
    show _ + (0 : Int) = (0 : Int) + _
    omega
  | a :: ms => by
    rw [List.cons_append, gain_cons, gain_cons, gain_snoc (ms := ms)]
    omega
section
variable {P : Program} {w : World} {K : PySem.W.Frag} {mg : Str → Option Value} {base : Heap}
theorem scTotal : FnScope ["paces", "marks", "low", "high", "weeks", "found", "at", "spot", "pace"] ["paces", "marks", "low", "high"] (defScope sTotal) := ⟨rfl, rfl, rfl, by decide +kernel, rfl, by decide +kernel, by decide +kernel⟩
theorem ok_total {f : Addr} {fd : FuncData} (F : Fun K "_law_total" "_law_total" sTotal f fd) (T : Blt mg) (T2 : Blt2 mg) : FnOk P w K mg base CX0 1 f fd ["paces", "marks", "low", "high"] spTotal := by
  refine F.ok scTotal (fun vs H Q E h => ?_) (fun cdv A outer s H vs Q E hr h => ?_)
  · obtain ⟨a, b, ps, ts, ms, lo, hi, rfl, _⟩ := h
    rfl
  · obtain ⟨a, b, ps, ts, ms, lo, hi, rfl, ha, hb, tp, hp, le, k⟩ := h
    refine ⟨_, pss_cons (ps_set (i := 4) scTotal.nd rfl (.inl rfl) (pe_op op_fdiv (pe_op op_sub (pv 3) (pv 2)) (pe_callB call_len_seq (by rfl) T.len PySem.boot_len (pa_cons (pv 0) pa_nil))))
      (pss_cons (ps_set (i := 5) scTotal.nd rfl (.inl rfl) (pe_op op_mul (pv 4) (pe_callB (cr_sum rfl) (by rfl) T2.sum (by decide +kernel) (pa_cons (pv 0) pa_nil))))
      (C8.pss_cut (ps_for PassesOwn.never rfl (pi_range1 (by rfl) T.range (pa_cons (pe_op op_sub (pe_op op_sub (pv 3) (pv 2)) (pe_op op_mul (pv 4) (pe_callB call_len_seq (by rfl) T.len PySem.boot_len (pa_cons (pv 0) pa_nil)))) pa_nil)) (pg_name (i := 6) scTotal.nd rfl (.inl rfl))
        (pss_one (ps_set (i := 5) scTotal.nd rfl (.inl rfl) (pe_op op_add (pv 5) (pe_ix ix_list (pv 0) (pe_op op_mod (pe_callTy call_int1 (by rfl) T.int (by decide +kernel) (pa_cons (pe_op op_add (pv 2) (pv 6)) pa_nil)) (pe_callB call_len_seq (by rfl) T.len PySem.boot_len (pa_cons (pv 0) pa_nil))) (fun _ _ => rfl))))))
      (pss_cons (ps_for PassesOwn.never rfl (pi_list (pv 1)) (pg_tup rfl (pgs_cons (pg_name (i := 7) scTotal.nd rfl (.inl rfl)) (pgs_cons (pg_name (i := 8) scTotal.nd rfl (.inl rfl)) pgs_nil)))
        (pss_one (ps_if (pt_chain op_le op_lt (pv 2) (pv 7) (pv 3)) (pss_one (ps_set (i := 5) scTotal.nd rfl (.inl rfl) (pe_op op_sub (pe_op op_add (pv 5) (pv 8)) (pe_ix ix_list (pv 0) (pe_op op_mod (pe_callTy call_int1 (by rfl) T.int (by decide +kernel) (pa_cons (pv 7) pa_nil)) (pe_callB call_len_seq (by rfl) T.len PySem.boot_len (pa_cons (pv 0) pa_nil))) (fun _ _ => rfl))))) pss_nil)))
      (pss_one (ps_ret (pv 5)))))), ?_⟩
    have l0 := hp.len0
    have l1 := hp.len1
    have hz : (((ps.map V.int).length : Nat) : Int) = ps.length := by rw [List.length_map]
    have sq : SqL K H a (ps.map V.int) := SqL.of ha
    have s2 := (sum_lo hp.lo).2
    have s0 := (sum_lo hp.lo).1
    have hn : (0 : Int) < ps.length := by omega
    refine ⟨_, rfl, _, rfl, _, _, rfl, rfl, _, rfl, a, _, rfl, .inl sq, _, _, rfl, rfl, by rw [hz]; exact ⟨by omega, by omega⟩, ?_⟩
    refine ⟨_, rfl, _, rfl, a, ps, rfl, sq, _, _, rfl, rfl, .inr ⟨by omega, by omega⟩, ?_⟩
    have hd := Int.mul_ediv_add_emod (hi - lo) ps.length
    have r0 := Int.emod_nonneg (hi - lo) (show (ps.length : Int) ≠ 0 by omega)
    have r1 := Int.emod_lt_of_pos (hi - lo) hn
    have er : hi - lo - (hi - lo) / ps.length * ps.length = (hi - lo) % ps.length := by
      rw [Int.mul_comm]
      omega
    have tw := tally_weeks l0 (lo + (hi - lo) % ps.length) ((hi - lo) / ps.length)
    rw [show lo + (hi - lo) % (ps.length : Int) + (hi - lo) / ps.length * ps.length = hi by omega] at tw
    refine ⟨fun σ J => J = H ∧ ∃ y6 : Option V, σ = [some (.ref a), some (.ref b), some (.int lo), some (.int hi), some (.int ((hi - lo) / ps.length)), some (.int (tally ps hi - tally ps lo)), y6, none, none], ?_, ?_⟩
    · refine ⟨_, rfl, _, rfl, _, _, rfl, rfl, _, rfl, _, rfl, a, _, rfl, .inl sq, _, _, rfl, rfl, .inr ⟨by rw [hz]; omega, by rw [hz]; omega⟩, _, _, rfl, rfl, (hi - lo) % ps.length, by rw [hz]; exact congrArg (fun q => [V.int q]) er, by omega, by omega, ?_⟩
      refine for_range (lo := 0) (n := ((hi - lo) % ps.length).toNat) (fun i σ J => J = H ∧ ∃ y6 : Option V, σ = [some (.ref a), some (.ref b), some (.int lo), some (.int hi), some (.int ((hi - lo) / ps.length)), some (.int ((hi - lo) / ps.length * ps.sum + (tally ps (lo + i) - tally ps lo))), y6, none, none])
        ⟨rfl, none, ?_⟩ ?_ ?_
      · rw [hz, show lo + ((0 : Nat) : Int) = lo by omega, Int.sub_self, Int.add_zero]
        rfl
      · rintro i σ J hi' ⟨rfl, y6, rfl⟩
        refine ⟨_, rfl, _, rfl, _, rfl, _, rfl, _, _, rfl, rfl, .inl ⟨_, rfl, _, rfl, a, _, rfl, .inl sq, _, _, rfl, rfl, by rw [hz]; exact hn, a, _, _, .int (paceOf ps (lo + (0 + (i : Int)))), rfl, rfl, sq, by rw [hz]; exact atI_pace l0, _, _, rfl, rfl, rfl, some (.int (0 + (i : Int))), ?_⟩⟩
        have ts := tally_step l0 (lo + i)
        have e : (hi - lo) / ps.length * ps.sum + (tally ps (lo + ((i + 1 : Nat) : Int)) - tally ps lo) = (hi - lo) / ps.length * ps.sum + (tally ps (lo + i) - tally ps lo) + paceOf ps (lo + (0 + (i : Int))) := by
          rw [show lo + ((i + 1 : Nat) : Int) = lo + i + 1 by omega, ts, show lo + (0 + (i : Int)) = lo + i by omega]
          omega
        rw [e]
        rfl
      · rintro σ J ⟨rfl, y6, rfl⟩
        refine ⟨rfl, y6, ?_⟩
        rw [show lo + ((((hi - lo) % (ps.length : Int)).toNat : Nat) : Int) = lo + (hi - lo) % ps.length by omega]
        rw [show (hi - lo) / (ps.length : Int) * ps.sum + (tally ps (lo + (hi - lo) % ps.length) - tally ps lo) = tally ps hi - tally ps lo by omega]
    · rintro σ J ⟨rfl, y6, rfl⟩
      have tl := tp.len
      refine ⟨_, rfl, b, rfl, ⟨_, SqL.of hb⟩, for_list (K := K) (a := b) (xs := ts.map V.ref) (fun i σ J2 => J2 = J ∧ ∃ y7 y8 : Option V, σ = [some (.ref a), some (.ref b), some (.int lo), some (.int hi), some (.int ((hi - lo) / ps.length)), some (.int (workOf ps (ms.take i) lo hi)), y6, y7, y8])
        ⟨rfl, none, none, ?_⟩ (fun i σ J2 _ h => by rw [h.1]; exact SqL.of hb) ?_ ?_⟩
      · have : workOf ps (ms.take 0) lo hi = tally ps hi - tally ps lo := by
          show tally ps hi - tally ps lo + (0 : Int) = _
          omega
        rw [this]
      · rintro i y σ J2 hi' ⟨rfl, y7, y8, rfl⟩
        have hi2 : i < ts.length := by
          have := (List.getElem?_eq_some_iff.mp hi').1
          simpa using this
        rw [List.getElem?_map, List.getElem?_eq_getElem hi2] at hi'
        obtain rfl := Option.some.inj hi'
        obtain ⟨m, hm, hm2⟩ := tp.get (List.getElem?_eq_getElem hi2)
        have et : ms.take (i + 1) = ms.take i ++ [m] := by rw [List.take_add_one, hm]; rfl
        refine ⟨_, _, rfl, .inl (.inl hm2), rfl, _, _, rfl, _, [], rfl, rfl, ?_⟩
        have no : ¬ (lo ≤ m.1 ∧ m.1 < hi) → workOf ps (ms.take (i + 1)) lo hi = workOf ps (ms.take i) lo hi := fun c => by
          unfold workOf
          rw [et, gain_snoc, if_neg c]
          omega
        refine ⟨_, rfl, _, rfl, _, _, rfl, rfl, _, rfl, ite2 (fun c1 => ?_) (fun c1 => ?_)⟩
        · refine ⟨_, rfl, _, _, rfl, rfl, _, rfl, ite2 (fun c2 => ?_) (fun c2 => ?_)⟩
          · have c : lo ≤ m.1 ∧ m.1 < hi := ⟨of_decide_eq_true c1, of_decide_eq_true c2⟩
            refine ⟨_, rfl, _, rfl, _, _, rfl, rfl, _, rfl, _, rfl, .inl ⟨_, rfl, _, rfl, a, _, rfl, .inl sq, _, _, rfl, rfl, by rw [hz]; exact hn, a, _, _, .int (paceOf ps m.1), rfl, rfl, sq, by rw [hz]; exact atI_pace l0, _, _, rfl, rfl, rfl, some (.int m.1), some (.int m.2), ?_⟩⟩
            have e : workOf ps (ms.take (i + 1)) lo hi = workOf ps (ms.take i) lo hi + m.2 - paceOf ps m.1 := by
              unfold workOf
              rw [et, gain_snoc, if_pos c]
              omega
            rw [e]
            rfl
          · have c : ¬ (lo ≤ m.1 ∧ m.1 < hi) := fun z => c2 (decide_eq_true z.2)
            refine ⟨rfl, some (.int m.1), some (.int m.2), ?_⟩
            rw [no c]
            rfl
        · have c : ¬ (lo ≤ m.1 ∧ m.1 < hi) := fun z => c1 (decide_eq_true z.1)
          refine ⟨_, rfl, ite2 (fun z => absurd z (by decide)) (fun _ => ?_)⟩
          refine ⟨rfl, some (.int m.1), some (.int m.2), ?_⟩
          rw [no c]
          rfl
      · rintro σ J2 ⟨rfl, y7, y8, rfl⟩
        rw [List.length_map, tl, List.take_length]
        exact ⟨_, rfl, k⟩
end

/-! ### the program's mirrored, latest, next_open, last_open -/
def spMirror (C : Addr) : Sp := fun vs H Q _ => ∃ (x l d : Addr) (ps : List Int) (ms : List (Int × Int)), vs = [.ref x] ∧ CalAt C H x l d ps ms ∧ Paces ps ∧ Fit ms ∧
  ∀ (H' : Hp) (y l' d' : Addr), Same H H' → CalAt C H' y l' d' ps.reverse (realOf ps.reverse (mirM ms)) → Q (.ref y) H'
def spLatest (C : Addr) : Sp := fun vs H Q _ => ∃ (x l d : Addr) (ps : List Int) (ms : List (Int × Int)) (t a : Int), vs = [.ref x, .int t, .int a] ∧ CalAt C H x l d ps ms ∧ Paces ps ∧ Fit ms ∧ 0 ≤ a ∧
  ∀ (r : Int) (H' : Hp), IsBegin ps ms t a r → Same H H' → Q (.int r) H'
def spNext (C : Addr) : Sp := fun vs H Q _ => ∃ (x l d : Addr) (ps : List Int) (ms : List (Int × Int)) (t : Int), vs = [.ref x, .int t] ∧ CalAt C H x l d ps ms ∧ Paces ps ∧ Fit ms ∧
  ∀ (r : Int) (H' : Hp), IsNext ps ms t r → Same H H' → Q (.int r) H'
def spLast (C : Addr) : Sp := fun vs H Q _ => ∃ (x l d : Addr) (ps : List Int) (ms : List (Int × Int)) (t : Int), vs = [.ref x, .int t] ∧ CalAt C H x l d ps ms ∧ Paces ps ∧ Fit ms ∧
  ∀ (r : Int) (H' : Hp), IsLast ps ms t r → Same H H' → Q (.int r) H'
section
variable {P : Program} {w : World} {K : PySem.W.Frag} {mg : Str → Option Value} {base : Heap}
theorem scMirror : FnScope ["calendar", "changes", "moment", "speed"] ["calendar"] (defScope sMirror) := ⟨rfl, rfl, rfl, by decide +kernel, rfl, by decide +kernel, by decide +kernel⟩
theorem ok_mirror {f fI C p2 g2 p3 g3 : Addr} {fd dI d2 d3 : FuncData} (F : Fun K "mirrored" "mirrored" sMirror f fd) (Z : Cal K mg C) (MK : Mk K C fI) (GI : FnOk P w K mg base CX0 3 fI dI ["self", "speeds", "changes"] (spInit C K)) (bI : Binds K dI ["self", "speeds", "changes"] [])
    (W2 : Pp P w K mg base C "speeds" (spSpeeds C) p2 g2 d2) (W3 : Pp P w K mg base C "changes" (spChanges C) p3 g3 d3) : FnOk P w K mg base CX0 5 f fd ["calendar"] (spMirror C) := by
  refine F.ok scMirror (fun vs H Q E h => ?_) (fun cdv A outer s H vs Q E hr h => ?_)
  · obtain ⟨x, l, d, ps, ms, rfl, _⟩ := h
    rfl
  · obtain ⟨x, l, d, ps, ms, rfl, cal, hp, fit, k⟩ := h
    have hr2 : Room 2 _ := hr.mono (by decide)
    refine ⟨_, pss_cons (ps_setLc (i := 1) (own := [("moment", 2), ("speed", 3)]) (g := gTup K 2 (gCons (gName 2) (gCons (gName 3) gNil))) (tt := tYes) rfl scMirror.nd rfl rfl (sw_true rfl rfl rfl (by decide +kernel)) (pi_list (pe_prop (pv 0) Z.cl W3.of W3.ok hr2 W3.bi .nil pass0 rfl))
          (blkOk_by (N := ["calendar", "changes", "moment", "speed"]) (sc := defScope sMirror) (by decide +kernel))
          (fun _ _ _ _ _ => pg_tup rfl (pgs_cons (pg_name (i := 2) scMirror.nd rfl (.inl rfl)) (pgs_cons (pg_name (i := 3) scMirror.nd rfl (.inl rfl)) pgs_nil))) (fun _ _ _ _ _ => pts_nil)
          (fun _ _ _ _ _ => pe_tup (pa_cons (pe_op op_sub (pe_un un_neg pe_int) (pv 2)) (pa_cons (pv 3) pa_nil))))
      (pss_one (ps_ret (pe_make MK GI hr (by rfl) Z.at_ bI .nil pass0 (pa_cons (pe_revL (pe_prop (pv 0) Z.cl W2.of W2.ok hr2 W2.bi .nil pass0 rfl)) (pa_cons (pe_revL (pv 1)) pa_nil))))), ?_⟩
    obtain ⟨dx, hx⟩ := cal.ob
    refine ⟨_, rfl, x, dx, _, rfl, hx, ⟨x, l, d, ps, ms, rfl, cal, fun H1 b ts s1 nb nt bt hb tp => ?_⟩⟩
    have tl := tp.len
    refine ⟨b, rfl, ⟨_, SqL.of hb⟩, fun D hD => lc_list (K := K) (a := b) (xs := ts.map V.ref) (fun i J => ∃ us : List Addr, J D = some (.lst (us.map V.ref)) ∧ Tups J us ((ms.take i).map fun m => (-1 - m.1, m.2)) ∧ Same H1 J)
      ⟨[], upd_same, trivial, same_new hD⟩ (fun i J _ ⟨_, _, _, h⟩ => SqL.of (h _ _ hb)) ?_ ?_⟩
    · rintro i y J hi' ⟨us, hJ, hus, sJ⟩
      have hi2 : i < ts.length := by
        have := (List.getElem?_eq_some_iff.mp hi').1
        simpa using this
      rw [List.getElem?_map, List.getElem?_eq_getElem hi2] at hi'
      obtain rfl := Option.some.inj hi'
      obtain ⟨m, hm, hm2⟩ := (tp.same sJ).get (List.getElem?_eq_getElem hi2)
      have et : ms.take (i + 1) = ms.take i ++ [m] := by rw [List.take_add_one, hm]; rfl
      refine ⟨_, _, rfl, .inl (.inl hm2), rfl, _, _, rfl, _, [], rfl, rfl, rfl, ?_⟩
      refine ⟨_, rfl, _, rfl, _, _, rfl, rfl, _, rfl, (by show 2 ≤ sizeLine; decide), fun u nu => ?_⟩
      have gu := same_new (o := .tup [.int (-1 - m.1), .int m.2]) nu
      have ul := hus.len
      rw [List.length_map, List.length_take] at ul
      have := fit.len
      refine ⟨_, gu _ _ hJ, by rw [List.length_map]; exact small1000 (by omega), us ++ [u], ?_, ?_, fun c o e => ?_⟩
      · rw [upd_same, List.map_append]
        rfl
      · rw [et, List.map_append]
        exact ((hus.same gu).snoc (m := (-1 - m.1, m.2)) upd_same).put (gu _ _ hJ)
      · rw [upd_ne (ne_of_none e hD)]
        exact gu _ _ (sJ c o e)
    · rintro J ⟨us, hJ, hus, sJ⟩
      rw [List.length_map, tl, List.take_length] at hus
      have sHJ := s1.trans sJ
      refine ⟨_, rfl, x, dx, _, rfl, sHJ _ _ hx, ⟨x, l, d, ps, ms, rfl, cal.same sHJ, fun q nq => ?_⟩⟩
      have s2 := same_new (o := .lst (ps.map V.int)) nq
      refine ⟨q, _, rfl, SqL.of upd_same, fun q2 nq2 => ?_⟩
      have s3 := s2.trans (same_new (o := .lst (ps.map V.int).reverse) nq2)
      refine ⟨_, rfl, D, _, rfl, SqL.of (s3 _ _ hJ), fun q3 nq3 => ?_⟩
      have s4 := same_new (o := .lst (us.map V.ref).reverse) nq3
      have h2 := s4 _ _ (upd_same (H := upd J q (.lst (ps.map V.int))) (a := q2) (o := .lst (ps.map V.int).reverse))
      refine fun y dy ny ndy _ => made_ok (ps := ps.reverse) (ts := us.reverse) (ms := mirM ms) rfl ny ndy (by rw [List.map_reverse]; exact h2) (by rw [List.map_reverse]; exact upd_same) ((hus.same (s3.trans s4)).rev) (rev_paces hp) (mir_fit fit) fun H' l' d' cal' _ _ s5 => ⟨rfl, ?_⟩
      exact k H' y l' d' (sHJ.trans ((s3.trans s4).trans s5)) cal'
theorem scLatest : FnScope ["calendar", "moment", "amount"] ["calendar", "moment", "amount"] (defScope sLatest) := ⟨rfl, rfl, rfl, by decide +kernel, rfl, by decide +kernel, by decide +kernel⟩
theorem ok_latest {f fM fD C : Addr} {fd dM dD : FuncData} (F : Fun K "latest" "latest" sLatest f fd) (Mi : At P w K mg base 5 "mirrored" ["calendar"] (spMirror C) fM dM) (Du : At P w K mg base 3 "due" ["calendar", "moment", "amount"] (spDue C) fD dD) :
    FnOk P w K mg base CX0 6 f fd ["calendar", "moment", "amount"] (spLatest C) := by
  refine F.ok scLatest (fun vs H Q E h => ?_) (fun cdv A outer s H vs Q E hr h => ?_)
  · obtain ⟨x, l, d, ps, ms, t, a, rfl, _⟩ := h
    rfl
  · obtain ⟨x, l, d, ps, ms, t, a, rfl, cal, hp, fit, a0, k⟩ := h
    have hr3 : Room 3 _ := hr.mono (by decide)
    refine ⟨_, pss_one (ps_ret (pe_un un_neg (pe_call Du.ok hr3 (by rfl) Du.at_ Du.kp Du.bi .nil pass0 (pa_cons (pe_call Mi.ok hr (by rfl) Mi.at_ Mi.kp Mi.bi .nil pass0 (pa_cons (pv 0) pa_nil)) (pa_cons (pe_un un_neg (pv 1)) (pa_cons (pv 2) pa_nil)))))), ?_⟩
    refine ⟨_, rfl, ⟨x, l, d, ps, ms, rfl, cal, hp, fit, fun H1 y l' d' s1 cal' => ?_⟩⟩
    have rp := rev_paces hp
    refine ⟨_, rfl, _, rfl, _, rfl, ⟨y, l', d', ps.reverse, _, -t, a, rfl, cal', rp, real_asc (mir_asc fit.asc), a0, fun r H2 e s2 => ⟨r, rfl, ?_⟩⟩⟩
    exact k (-r) H2 (begin_of hp.len0 fit.asc (e.real rp.len0 (mir_asc fit.asc))) (s1.trans s2)
end

def spEdge : Sp := fun vs H Q _ => ∃ (p : Addr) (n : Nat) (t : Int), vs = [.ref p, .int t] ∧ Well H p n ∧ n ≤ 10 ^ 7 ∧ ∀ (r : Int) (H' : Hp), Fr p H H' → Well H' p (n + 3) → Q (.int r) H'
def spLoad : Sp := fun vs H Q _ => ∃ (p : Addr) (n : Nat) (s : Int), vs = [.ref p, .int s] ∧ Well H p n ∧ n ≤ 10 ^ 7 ∧ 0 ≤ s ∧ s ≤ 1000 ∧ ∀ (r : Int) (H' : Hp), 0 ≤ r → Fr p H H' → Well H' p (n + 3) → Q (.int r) H'
def spIsBegin : Sp := fun vs H Q _ => ∃ (a b : Addr) (ps : List Int) (ts : List Addr) (ms : List (Int × Int)) (lo ld hi : Int), vs = [.ref a, .ref b, .int lo, .int ld, .int hi] ∧ H a = some (.lst (ps.map V.int)) ∧ H b = some (.lst (ts.map V.ref)) ∧ Tups H ts ms ∧ Paces ps ∧ Fit ms ∧ 0 ≤ ld ∧
  IsBegin ps ms hi ld lo ∧ Q (.bl true) H
structure Blt3 (mg : Str → Option Value) : Prop where
  isi : mg "isinstance" = none
  bool : mg "bool" = none
theorem relTy (n : String) : L2.RelV (.ty n) (.type n) := rfl
def gLat {α : Type} (z : α) : List α → List α → List α := gK3 z 1 2 0
theorem kb_latest {K : PySem.W.Frag} {f : Addr} {fd : FuncData} (F : Fun K "latest" "latest" sLatest f fd) : KBn K fd ["calendar", "moment", "amount"] 0 ["amount", "calendar", "moment"] (gLat Value.none) (gLat V.non) := by
  obtain ⟨oc, od, kV, doc, pm, an, cdv, ct, osl, rfl, lk, hcd⟩ := F.ex
  refine ⟨fun s us ws _ l1 l2 => ?_, fun {vs us zs ws} r1 r2 => gK3_rel r1 r2⟩
  match us, l1, ws, l2 with
  | [], _, [a, b, c], _ => exact .of_eq rfl
theorem begin_cong {ps : List Int} (l0 : 0 < ps.length) {rs ks : List (Int × Int)} (a1 : rs.Pairwise fun a b => a.1 < b.1) (a2 : ks.Pairwise fun a b => a.1 < b.1) (h : ∀ t, speedAt ps rs t = speedAt ps ks t) {t a b : Int} (g : IsBegin ps rs t a b) : IsBegin ps ks t a b := by
  refine ⟨g.1, ?_, fun u h1 h2 => ?_⟩
  · rw [← work_cong l0 a1 a2 h g.1]
    exact g.2.1
  · rw [← work_cong l0 a1 a2 h h2]
    exact g.2.2 u h1 h2
theorem IsBegin.one {ps : List Int} {ms : List (Int × Int)} {t a r r' : Int} (h : IsBegin ps ms t a r) (g : IsBegin ps ms t a r') : r = r' := by
  rcases Int.lt_trichotomy r r' with c | c | c
  · have := h.2.2 r' c g.1
    have := g.2.1
    omega
  · exact c
  · have := g.2.2 r c h.1
    have := h.2.1
    omega
theorem work_self (ps : List Int) (ms : List (Int × Int)) (t : Int) : workOf ps ms t t = 0 := by
  unfold workOf
  rw [gain_nil]
  omega
section
variable {P : Program} {w : World} {K : PySem.W.Frag} {mg : Str → Option Value} {base : Heap}
theorem scEdge : FnScope ["well", "at"] ["well", "at"] (defScope sEdge) := ⟨rfl, rfl, rfl, by decide +kernel, rfl, by decide +kernel, by decide +kernel⟩
theorem ok_edge {f fT : Addr} {fd fdT : FuncData} (F : Fun K "_law_edge" "_law_edge" sEdge f fd) (L : Tk P w K mg base fT fdT) : FnOk P w K mg base CX0 2 f fd ["well", "at"] spEdge := by
  refine F.ok scEdge (fun vs H Q E h => ?_) (fun cdv A outer s H vs Q E hr h => ?_)
  · obtain ⟨p, n, t, rfl, _⟩ := h
    rfl
  · obtain ⟨p, n, t, rfl, hW, hn, k⟩ := h
    refine ⟨_, pss_cons (ps_if (pt_cmpR op_gt (pe_call L.ok hr (by rfl) L.at_ L.kp L.bi .nil pass0 (pa_cons (pv 0) (pa_cons pe_int pa_nil))) pe_int (nomark _)) (pss_one (ps_ret (pv 1))) pss_nil)
      (pss_one (ps_ret (pe_op op_add (pe_op op_mul (pe_op op_sub (pe_op op_pow pe_int pe_int) pe_int) (pe_op op_sub pe_int (pe_op op_mul pe_int (pe_call L.ok hr (by rfl) L.at_ L.kp L.bi .nil pass0 (pa_cons (pv 0) (pa_cons pe_int pa_nil)))))) (pe_call L.ok hr (by rfl) L.at_ L.kp L.bi .nil pass0 (pa_cons (pv 0) (pa_cons pe_int pa_nil)))))), ?_⟩
    refine ⟨_, rfl, ⟨_, _, _, rfl, hW, (by omega), (by decide), (by decide), fun y H1 _ _ f1 w1 => ⟨_, _, rfl, rfl, _, rfl, ite2 (fun _ => ?_) (fun _ => ?_)⟩⟩⟩
    · exact ⟨_, rfl, k t H1 f1 (w1.mono (by omega))⟩
    · refine ⟨_, _, rfl, rfl, ⟨by decide, by decide, by decide⟩, _, _, rfl, rfl, _, rfl, ⟨_, _, _, rfl, w1, (by omega), (by decide), (by decide), fun v H2 v0 v1 f2 w2 => ⟨_, _, rfl, rfl, .inl ⟨by decide, by decide⟩, _, _, rfl, rfl, _, _, rfl, rfl, .inr ⟨by omega, by omega⟩, ?_⟩⟩⟩
      refine ⟨_, rfl, ⟨_, _, _, rfl, w2, (by omega), (by decide), (by decide), fun u H3 u0 u1 f3 w3 => ⟨_, _, rfl, rfl, ?_⟩⟩⟩
      exact k _ H3 ((f1.trans f2).trans f3) w3
theorem scLoad : FnScope ["well", "total", "way"] ["well", "total"] (defScope sLoad) := ⟨rfl, rfl, rfl, by decide +kernel, rfl, by decide +kernel, by decide +kernel⟩
theorem ok_load {f fT : Addr} {fd fdT : FuncData} (F : Fun K "_law_load" "_law_load" sLoad f fd) (T : Blt mg) (L : Tk P w K mg base fT fdT) : FnOk P w K mg base CX0 2 f fd ["well", "total"] spLoad := by
  refine F.ok scLoad (fun vs H Q E h => ?_) (fun cdv A outer s H vs Q E hr h => ?_)
  · obtain ⟨p, n, t, rfl, _⟩ := h
    rfl
  · obtain ⟨p, n, t, rfl, hW, hn, t0, t1, k⟩ := h
    refine ⟨_, pss_cons (ps_set (i := 2) scLoad.nd rfl (.inl rfl) (pe_call L.ok hr (by rfl) L.at_ L.kp L.bi .nil pass0 (pa_cons (pv 0) (pa_cons pe_int pa_nil))))
      (pss_cons (ps_if (pt_cmpR op_eq (pv 2) pe_int (nomark _)) (pss_one (ps_ret (pe_call L.ok hr (by rfl) L.at_ L.kp L.bi .nil pass0 (pa_cons (pv 0) (pa_cons pe_int pa_nil))))) pss_nil)
      (pss_cons (ps_if (pt_cmpR op_eq (pv 2) pe_int (nomark _)) (pss_one (ps_ret (pe_callB (call_max2 rfl) (by rfl) T.max (by decide +kernel) (pa_cons pe_int (pa_cons (pe_op op_sub (pe_op op_add (pe_op op_mul (pv 1) (pe_call L.ok hr (by rfl) L.at_ L.kp L.bi .nil pass0 (pa_cons (pv 0) (pa_cons pe_int pa_nil)))) (pe_call L.ok hr (by rfl) L.at_ L.kp L.bi .nil pass0 (pa_cons (pv 0) (pa_cons pe_int pa_nil)))) pe_int) pa_nil))))) pss_nil)
      (pss_one (ps_ret (pe_op op_add (pe_op op_mul (pe_call L.ok hr (by rfl) L.at_ L.kp L.bi .nil pass0 (pa_cons (pv 0) (pa_cons (pe_op op_pow pe_int pe_int) pa_nil))) (pe_op op_pow pe_int pe_int)) (pe_call L.ok hr (by rfl) L.at_ L.kp L.bi .nil pass0 (pa_cons (pv 0) (pa_cons (pe_op op_pow pe_int pe_int) pa_nil)))))))), ?_⟩
    refine ⟨_, rfl, ⟨_, _, _, rfl, hW, (by omega), (by decide), (by decide), fun y H1 y0 y1 f1 w1 => ?_⟩⟩
    refine ⟨_, rfl, rfl, _, rfl, ite2 (fun _ => ?_) (fun _ => ?_)⟩
    · exact ⟨_, rfl, ⟨_, _, _, rfl, w1, (by omega), (by decide), (by decide), fun v H2 v0 v1 f2 w2 => k v H2 v0 (f1.trans f2) (w2.mono (by omega))⟩⟩
    · refine ⟨_, rfl, rfl, _, rfl, ite2 (fun _ => ?_) (fun _ => ?_)⟩
      · refine ⟨_, rfl, _, rfl, ⟨_, _, _, rfl, w1, (by omega), (by decide), (by decide), fun v H2 v0 v1 f2 w2 => ⟨_, _, rfl, rfl, .inl ⟨by omega, by omega⟩, ?_⟩⟩⟩
        refine ⟨_, rfl, ⟨_, _, _, rfl, w2, (by omega), (by decide), (by decide), fun u H3 u0 u1 f3 w3 => ⟨_, _, rfl, rfl, _, _, rfl, rfl, 0, _, rfl, ?_⟩⟩⟩
        refine k _ H3 ?_ ((f1.trans f2).trans f3) w3
        split <;> omega
      · refine ⟨_, rfl, _, _, rfl, rfl, ⟨by decide, by decide, by decide⟩, ⟨_, _, _, rfl, w1, (by omega), (by decide), (by decide), fun v H2 v0 v1 f2 w2 => ⟨_, _, rfl, rfl, ⟨by decide, by decide, by decide⟩, _, _, rfl, rfl, .inr ⟨by decide, by decide⟩, ?_⟩⟩⟩
        refine ⟨_, rfl, _, _, rfl, rfl, ⟨by decide, by decide, by decide⟩, ⟨_, _, _, rfl, w2, (by omega), (by decide), (by decide), fun u H3 u0 u1 f3 w3 => ⟨_, _, rfl, rfl, ?_⟩⟩⟩
        refine k _ H3 ?_ ((f1.trans f2).trans f3) w3
        have : (0 : Int) ≤ v * 10 ^ (15 : Int).toNat := Int.mul_nonneg v0 (by decide)
        omega
theorem scIsBegin : FnScope ["paces", "marks", "low", "load", "high"] ["paces", "marks", "low", "load", "high"] (defScope sIsBegin) := ⟨rfl, rfl, rfl, by decide +kernel, rfl, by decide +kernel, by decide +kernel⟩
theorem ok_isBegin {f fT : Addr} {fd dT : FuncData} (F : Fun K "_law_is_begin" "_law_is_begin" sIsBegin f fd) (T : Blt mg) (T3 : Blt3 mg) (To : At P w K mg base 1 "_law_total" ["paces", "marks", "low", "high"] spTotal fT dT) :
    FnOk P w K mg base CX0 2 f fd ["paces", "marks", "low", "load", "high"] spIsBegin := by
  refine F.ok scIsBegin (fun vs H Q E h => ?_) (fun cdv A outer s H vs Q E hr h => ?_)
  · obtain ⟨a, b, ps, ts, ms, lo, ld, hi, rfl, _⟩ := h
    rfl
  · obtain ⟨a, b, ps, ts, ms, lo, ld, hi, rfl, ha, hb, tp, hp, fit, d0, e, k⟩ := h
    refine ⟨_, pss_cons (ps_if (PW.pt (pw_or (pt_val (pe_callB call_isi (by rfl) T3.isi (by decide +kernel) (pa_cons (pv 2) (pa_cons (pe_bltn (by rfl) T3.bool (by decide +kernel) (relTy "bool")) pa_nil)))) (pw_or (pt_not (pt_val (pe_callB call_isi (by rfl) T3.isi (by decide +kernel) (pa_cons (pv 2) (pa_cons (pe_bltn (by rfl) T.int (by decide +kernel) (relTy "int")) pa_nil))))) (pw_or1 (pt_cmpR op_lt (pv 4) (pv 2) (nomark _)))))) (pss_one (ps_ret pe_bl)) pss_nil)
      (pss_cons (ps_if (pt_cmpR op_eq (pv 3) pe_int (nomark _)) (pss_one (ps_ret (pe_cmpR op_eq (pv 4) (pv 2) (nomark _)))) pss_nil)
      (pss_one (ps_ret (pe_and (pe_cmpR op_ge (pe_call To.ok hr (by rfl) To.at_ To.kp To.bi .nil pass0 (pa_cons (pv 0) (pa_cons (pv 1) (pa_cons (pv 2) (pa_cons (pv 4) pa_nil))))) (pv 3) (nomark _)) (pe_and (pe_cmpR op_lt (pv 2) (pv 4) (nomark _)) (pe_one (pe_cmpR op_lt (pe_call To.ok hr (by rfl) To.at_ To.kp To.bi .nil pass0 (pa_cons (pv 0) (pa_cons (pv 1) (pa_cons (pe_op op_add (pv 2) pe_int) (pa_cons (pv 4) pa_nil))))) (pv 3) (nomark _)))))))), ?_⟩
    have g := e.1
    refine ⟨_, rfl, _, .ty "bool", _, _, false, rfl, .ty "bool", .base (.int lo), kit_ty (by decide +kernel), _, rfl, ?_⟩
    refine ⟨_, rfl, _, .ty "int", _, _, true, rfl, .ty "int", .base (.int lo), kit_ty (by decide +kernel), _, rfl, ?_⟩
    refine ⟨_, rfl, _, rfl, _, _, rfl, rfl, _, rfl, ite2 (fun c => ?_) (fun _ => ?_)⟩
    · have : hi < lo := of_decide_eq_true c
      omega
    refine ⟨_, rfl, rfl, _, rfl, ite2 (fun c => ?_) (fun c => ?_)⟩
    · have c2 : ld = 0 := by
        have := of_decide_eq_true c
        injection this
      subst c2
      have : lo = hi := e.one ⟨Int.le_refl _, by rw [work_self]; exact Int.le_refl _, fun u h1 h2 => by omega⟩
      subst this
      refine ⟨_, rfl, _, rfl, rfl, ?_⟩
      rw [decide_eq_true rfl]
      exact k
    · have c2 : ld ≠ 0 := fun q => c (decide_eq_true (by rw [q]))
      have lt : lo < hi := by
        rcases Int.lt_or_le lo hi with q | q
        · exact q
        · have : lo = hi := by omega
          have h1 := e.2.1
          rw [this, work_self] at h1
          omega
      have e1 := e.2.1
      have e2 := e.2.2 (lo + 1) (by omega) (by omega)
      refine ⟨_, rfl, _, rfl, _, rfl, _, rfl, ⟨a, b, ps, ts, ms, lo, hi, rfl, ha, hb, tp, hp, g, _, rfl, _, _, rfl, rfl, _, rfl, ?_⟩⟩
      rw [decide_eq_true e1]
      refine ⟨_, rfl, _, rfl, _, _, rfl, rfl, _, rfl, ?_⟩
      rw [decide_eq_true lt]
      refine ⟨_, rfl, _, rfl, _, rfl, _, _, rfl, rfl, _, rfl, ⟨a, b, ps, ts, ms, lo + 1, hi, rfl, ha, hb, tp, hp, by omega, _, rfl, _, _, rfl, rfl, ?_⟩⟩
      show Q (V.bl (decide (workOf ps ms (lo + 1) hi < ld))) H
      rw [decide_eq_true e2]
      exact k
end

section
variable {P : Program} {w : World} {K : PySem.W.Frag} {mg : Str → Option Value} {base : Heap}
theorem scFits : FnScope ["well", "size", "way", "paces", "marks", "made", "shift", "at", "load", "high", "need", "pace"] ["well"] (defScope sFits) := ⟨rfl, rfl, rfl, by decide +kernel, rfl, by decide +kernel, by decide +kernel⟩
theorem ok_fits {f fT fP fM fI fN fU fE fD fB fL fV C : Addr} {fd dT dP dM dI dN dU dE dD dB dL dV : FuncData} (F : Fun K "_law_fits" "_law_fits" sFits f fd) (T : Blt mg) (T2 : Blt2 mg) (Z : Cal K mg C) (L : Tk P w K mg base fT dT) (B : Nb P w K mg base fU dU)
    (Pa : At P w K mg base 2 "_law_paces" ["well", "size"] spPaces fP dP) (Ma : At P w K mg base 3 "_law_marks" ["well", "size", "cap"] spMarks fM dM)
    (MK : Mk K C fI) (GI : FnOk P w K mg base CX0 3 fI dI ["self", "speeds", "changes"] (spInit C K)) (bI : Binds K dI ["self", "speeds", "changes"] [])
    (Ne : At P w K mg base 3 "_law_near" ["well", "marks", "back"] spNear fN dN) (Ed : At P w K mg base 2 "_law_edge" ["well", "at"] spEdge fE dE) (Lo : At P w K mg base 2 "_law_load" ["well", "total"] spLoad fD dD)
    (Ib : At P w K mg base 2 "_law_is_begin" ["paces", "marks", "low", "load", "high"] spIsBegin fB dB) (La : At P w K mg base 6 "latest" ["calendar", "moment", "amount"] (spLatest C) fL dL) (kL : KBn K dL ["calendar", "moment", "amount"] 0 ["amount", "calendar", "moment"] (gLat Value.none) (gLat V.non))
    (hV : Meth K C "moved" fV) (GV : FnOk P w K mg base CX0 5 fV dV ["self", "number"] (spMoved C)) (bV : Binds K dV ["self", "number"] []) : FnG P w K mg base 8 f fd ["well"] spFits := by
  refine okG F scFits (fun vs H Q E h => ?_) (fun cdv A outer s H vs Q E hgd hr h => ?_)
  · obtain ⟨p, n, rfl, _⟩ := h
    rfl
  · obtain ⟨p, n, rfl, hW, hn, k⟩ := h
    have hr1 : Room 1 _ := hr.mono (by decide)
    have hr2 : Room 2 _ := hr.mono (by decide)
    have hr3 : Room 3 _ := hr.mono (by decide)
    have hr4 : Room 4 _ := hr.mono (by decide)
    have hr5 : Room 5 _ := hr.mono (by decide)
    have hr6 : Room 6 _ := hr.mono (by decide)
    have hu := hr.units
    refine ⟨_, pss_cons (ps_asg (pe_tup (pa_cons (pe_op op_add pe_int (pe_call L.ok hr1 (by rfl) L.at_ L.kp L.bi .nil pass0 (pa_cons (pv 0) (pa_cons pe_int pa_nil)))) (pa_cons (pe_call L.ok hr1 (by rfl) L.at_ L.kp L.bi .nil pass0 (pa_cons (pv 0) (pa_cons pe_int pa_nil))) pa_nil)))
        (pg_tup rfl (pgs_cons (pg_name (i := 1) scFits.nd rfl (.inr rfl)) (pgs_cons (pg_name (i := 2) scFits.nd rfl (.inl rfl)) pgs_nil))))
      (pss_cons (ps_set (i := 3) scFits.nd rfl (.inr rfl) (pe_call Pa.ok hr2 (by rfl) Pa.at_ Pa.kp Pa.bi .nil pass0 (pa_cons (pv 0) (pa_cons (pv 1) pa_nil))))
      (pss_cons (ps_set (i := 4) scFits.nd rfl (.inl rfl) (pe_call Ma.ok hr3 (by rfl) Ma.at_ Ma.kp Ma.bi .nil pass0 (pa_cons (pv 0) (pa_cons (pv 1) (pa_cons pe_int pa_nil)))))
      (pss_cons (ps_set (i := 5) scFits.nd rfl (.inl rfl) (pe_make MK GI hr4 (by rfl) Z.at_ bI .nil pass0 (pa_cons (pe_callTy call_list_of (by rfl) T.list (by decide +kernel) (pa_cons (pv 3) pa_nil)) (pa_cons (pe_callTy call_list_of (by rfl) T.list (by decide +kernel) (pa_cons (pv 4) pa_nil)) pa_nil))))
      (C8.pss_cut (ps_if (pt_cmpR op_eq (pv 2) pe_int (nomark _))
        (pss_cons (ps_set (i := 6) scFits.nd rfl (.inr rfl) (pe_call B.ok hr2 (by rfl) B.at_ B.kp B.bi .nil pass0 (pa_cons (pv 0) pa_nil)))
        (pss_cons (ps_set (i := 5) scFits.nd rfl (.inl rfl) (pe_meth (pv 5) Z.cl hV GV hr5 bV .nil pass0 (pa_cons (pv 6) pa_nil)))
        (pss_cons (ps_set (i := 3) scFits.nd rfl (.inr rfl) (pe_lc (own := [("at", 7)]) (g := gName 7) (tt := tYes) rfl scFits.nd (pi_range1 (by rfl) T.range (pa_cons (pv 1) pa_nil))
          (blkOk_by (N := ["well", "size", "way", "paces", "marks", "made", "shift", "at", "load", "high", "need", "pace"]) (sc := defScope sFits) (by decide +kernel)) (fun _ _ _ _ _ => pg_name (i := 7) scFits.nd rfl (.inl rfl)) (fun _ _ _ _ _ => pts_nil)
          (fun _ _ _ _ _ => pe_ix (r := rIxL K) ix_list (pv 3) (pe_op op_mod (pe_callTy call_int1 (by rfl) T.int (by decide +kernel) (pa_cons (pe_op op_sub (pv 7) (pv 6)) pa_nil)) (pv 1)) (fun _ _ => rfl))))
        (pss_one (ps_setLc (i := 4) (own := [("at", 7), ("pace", 11)]) (g := gTup K 2 (gCons (gName 7) (gCons (gName 11) gNil))) (tt := tYes) rfl scFits.nd rfl rfl (sw_true rfl rfl rfl (by decide +kernel)) (pi_list (pv 4))
          (blkOk_by (N := ["well", "size", "way", "paces", "marks", "made", "shift", "at", "load", "high", "need", "pace"]) (sc := defScope sFits) (by decide +kernel))
          (fun _ _ _ _ _ => pg_tup rfl (pgs_cons (pg_name (i := 7) scFits.nd rfl (.inl rfl)) (pgs_cons (pg_name (i := 11) scFits.nd rfl (.inl rfl)) pgs_nil))) (fun _ _ _ _ _ => pts_nil)
          (fun _ _ _ _ _ => pe_tup (pa_cons (pe_op op_add (pv 7) (pv 6)) (pa_cons (pv 11) pa_nil)))))))) pss_nil)
      (pss_cons (ps_par (i := 7) (j := 8) rfl scFits.nd rfl rfl (by decide) rfl rfl (pa_cons (pe_op op_add (pe_call Ne.ok hr3 (by rfl) Ne.at_ Ne.kp Ne.bi .nil pass0 (pa_cons (pv 0) (pa_cons (pv 4) (pa_cons pe_int pa_nil)))) (pe_call L.ok hr1 (by rfl) L.at_ L.kp L.bi .nil pass0 (pa_cons (pv 0) (pa_cons pe_int pa_nil))))
          (pa_cons (pe_call Lo.ok hr2 (by rfl) Lo.at_ Lo.kp Lo.bi .nil pass0 (pa_cons (pv 0) (pa_cons (pe_callB (cr_sum rfl) (by rfl) T2.sum (by decide +kernel) (pa_cons (pv 3) pa_nil)) pa_nil))) pa_nil)) (by rfl))
      (pss_cons (ps_set (i := 7) scFits.nd rfl (.inl rfl) (pe_call Ed.ok hr2 (by rfl) Ed.at_ Ed.kp Ed.bi .nil pass0 (pa_cons (pv 0) (pa_cons (pv 7) pa_nil))))
      (pss_cons (ps_for PassesOwn.never rfl (pi_list (pe_lst (pa_cons (pe_tup (pa_cons (pv 7) (pa_cons (pv 8) pa_nil))) (pa_cons (pe_tup (pa_cons (pv 7) (pa_cons (pe_op op_add (pv 8) pe_int) pa_nil))) (pa_cons (pe_tup (pa_cons (pv 7) (pa_cons (pe_callB (call_max2 rfl) (by rfl) T.max (by decide +kernel) (pa_cons pe_int (pa_cons (pe_op op_sub (pv 8) pe_int) pa_nil))) pa_nil)))
          (pa_cons (pe_tup (pa_cons (pe_op op_sub (pv 7) pe_int) (pa_cons (pv 8) pa_nil))) (pa_cons (pe_tup (pa_cons (pe_op op_sub (pv 7) (pv 1)) (pa_cons (pv 8) pa_nil))) pa_nil))))))) (pg_tup rfl (pgs_cons (pg_name (i := 9) scFits.nd rfl (.inl rfl)) (pgs_cons (pg_name (i := 10) scFits.nd rfl (.inl rfl)) pgs_nil)))
        (pss_one (ps_if (pt_not (pt_val (pe_call Ib.ok hr2 (by rfl) Ib.at_ Ib.kp Ib.bi .nil pass0 (pa_cons (pv 3) (pa_cons (pv 4) (pa_cons (pe_call La.ok hr6 (by rfl) La.at_ La.kp La.bi .nil pass0 (pa_cons (pv 5) (pa_cons (pv 9) (pa_cons (pv 10) pa_nil)))) (pa_cons (pv 10) (pa_cons (pv 9) pa_nil)))))))) (pss_one (ps_ret pe_bl)) pss_nil)))
      (pss_one (ps_ret (pe_cmpR op_eq (pe_callKw La.ok hr6 (by rfl) La.at_ La.kp kL (pk_cons (pv 8) (pk_cons (pv 5) (pk_cons (pv 7) pk_nil)))) (pe_call La.ok hr6 (by rfl) La.at_ La.kp La.bi .nil pass0 (pa_cons (pv 5) (pa_cons (pv 7) (pa_cons (pv 8) pa_nil)))) (nomark _))))))))))), ?_⟩
    refine ⟨_, rfl, ⟨_, _, _, rfl, hW, (by omega), (by decide), (by decide), fun z H1 z0 z1 f1 w1 => ⟨_, _, rfl, rfl, ?_⟩⟩⟩
    refine ⟨_, rfl, ⟨_, _, _, rfl, w1, (by omega), (by decide), (by decide), fun way H2 v0 v1 f2 w2 => ?_⟩⟩
    refine ⟨(by show 2 ≤ sizeLine; decide), fun t0 nt0 => ⟨t0, _, rfl, .inl (.inl upd_same), rfl, _, _, rfl, _, [], rfl, rfl, ?_⟩⟩
    have w2' := w2.new (o := .tup [.int (1 + z), .int way]) nt0
    have f02 : Fr p H _ := (f1.trans f2).trans (Fr.new (o := .tup [.int (1 + z), .int way]) nt0)
    generalize upd H2 t0 (.tup [.int (1 + z), .int way]) = H2' at w2' f02
    refine ⟨_, rfl, _, rfl, ⟨p, _, _, rfl, w2', by omega, by omega, by omega, fun aP ps H3 hp pl nP nPp h3 f3 w3 => ?_⟩⟩
    refine ⟨_, rfl, _, rfl, ⟨p, _, _, _, rfl, w3, by omega, by omega, by omega, by decide, by decide, fun aM ts ms H5 hm nM nMp h5 tp nts f5 w5 => ?_⟩⟩
    have f05 : Fr p H H5 := (f02.trans f3).trans f5
    have hP := f5 _ _ h3 nPp
    have ml0 := hm.len
    have fit := hm.fit (by decide)
    have l0 := hp.len0
    have l1 := hp.len1
    have tl := tp.len
    -- made
    refine ⟨_, rfl, aP, _, rfl, .inl (SqL.of hP), fun q1 nq1 => ?_⟩
    have s1 := same_new (o := .lst (ps.map V.int)) nq1
    refine ⟨_, rfl, aM, _, rfl, .inl (SqL.of (s1 _ _ h5)), fun q2 nq2 => ?_⟩
    have s2 := s1.trans (same_new (o := .lst (ts.map V.ref)) nq2)
    have hq1 := (same_new (o := .lst (ts.map V.ref)) nq2) _ _ (upd_same (H := H5) (a := q1) (o := .lst (ps.map V.int)))
    refine fun x dx nx ndx _ => made_ok rfl nx ndx hq1 upd_same (tp.same s2) hp fit fun H6 l d cal nl nd s3 => ⟨rfl, ?_⟩
    have s56 := s2.trans s3
    have w6 := w5.same s56
    have f06 := f05.trans (Fr.of s56)
    have np : ∀ {c : Addr} {o : HO} {m : Nat} {J : Hp}, J c = some o → (∀ xs, o ≠ .lst xs) → Well J p m → c ≠ p := fun {c o m J} e g wl z => by
      obtain ⟨a, b, u, e2, _⟩ := wl
      rw [z, e2] at e
      exact g _ (Option.some.inj e).symm
    obtain ⟨dxx, hx⟩ := cal.ob
    have xp := np hx (fun xs z => nomatch z) w6
    have dp := np cal.dc (fun xs z => nomatch z) w6
    have lp : l ≠ p := fun z => (w5.ne (s2.free nl)) z.symm
    have h56 := s56 _ _ h5
    have hP6 := s56 _ _ hP
    have tp6 := tp.same s56
    refine ⟨fun σ J => ∃ (aQ b x' l' d' : Addr) (qs : List Int) (us : List Addr) (ks rs : List (Int × Int)) (y6 : Option V),
      σ = [some (.ref p), some (.int (1 + z)), some (.int way), some (.ref aQ), some (.ref b), some (.ref x'), y6, none, none, none, none, none] ∧
      J aQ = some (.lst (qs.map V.int)) ∧ aQ ≠ p ∧ J b = some (.lst (us.map V.ref)) ∧ b ≠ p ∧ Tups J us ks ∧ Paces qs ∧ Fit ks ∧ ks.length ≤ 3 ∧ (∀ m ∈ ks, -10 ^ 31 < m.1 ∧ m.1 < 10 ^ 31) ∧
      CalOf C J x' l' d' qs ks rs ∧ x' ≠ p ∧ l' ≠ p ∧ d' ≠ p ∧ Fr p H J ∧ Well J p (n + 50), ?_, ?_⟩
    · refine ⟨_, rfl, rfl, _, rfl, ite2 (fun _ => ?_) (fun _ => ?_)⟩
      · refine ⟨_, rfl, ⟨p, _, rfl, w6, by omega, fun sh H7 h0 h1 f7 w7 => ?_⟩⟩
        have cal7 := cal.fr f7 xp lp dp
        obtain ⟨dx7, hx7⟩ := cal7.ob
        have fit' : Fit (realOf ps ms) := realFit fit
        refine ⟨_, rfl, x, dx7, _, rfl, hx7, rfl, _, rfl, ⟨x, l, d, ps, _, sh, rfl, cal7, hp, fit', fun H8 y l' d' s8 cal8 ny nl' nd' => ?_⟩⟩
        have hP8 := s8 _ _ (f7 _ _ hP6 nPp)
        have hM8 := s8 _ _ (f7 _ _ h56 nMp)
        have tp8 := (tp6.fr w6 f7).same s8
        have w8 := w7.same s8
        have f68 := f7.trans (Fr.of s8)
        refine ⟨_, rfl, (1 + z), rfl, by omega, by omega, fun D hD => lc_range (lo := 0) (n := (1 + z).toNat) (fun i J => J D = some (.lst (((List.range i).map fun (j : Nat) => paceOf ps ((j : Int) - sh)).map V.int)) ∧ Same H8 J) ⟨upd_same, same_new hD⟩ ?_ ?_⟩
        · rintro i J hi ⟨hJ, sJ⟩
          refine ⟨rfl, _, rfl, _, rfl, _, rfl, _, _, rfl, rfl, .inl ⟨_, rfl, _, rfl, _, _, rfl, rfl, (by show (0 : Int) < 1 + z; omega), aP, _, _, .int (paceOf ps ((0 : Int) + i - sh)), rfl, rfl, SqL.of (sJ _ _ hP8), by rw [← pl]; exact atI_pace l0, ?_⟩⟩
          refine ⟨_, hJ, by rw [List.length_map, List.length_map, List.length_range]; exact small1000 (by omega), ?_, fun c o e => ?_⟩
          · rw [upd_same, List.range_succ, List.map_append, List.map_append, show (0 : Int) + i - sh = i - sh by omega]
            rfl
          · rw [upd_ne (ne_of_none e hD)]
            exact sJ c o e
        · rintro J ⟨hJ, sJ⟩
          have hJ' : J D = some (.lst ((movP ps sh).map V.int)) := by
            rw [show (1 + z).toNat = ps.length by omega] at hJ
            exact hJ
          refine ⟨_, rfl, aM, rfl, ⟨_, SqL.of (sJ _ _ hM8)⟩, fun E hE => lc_list (K := K) (a := aM) (xs := ts.map V.ref) (fun i J2 => ∃ us : List Addr, J2 E = some (.lst (us.map V.ref)) ∧ Tups J2 us (movM (ms.take i) sh) ∧ Same J J2)
            ⟨[], upd_same, trivial, same_new hE⟩ (fun i J2 _ ⟨_, _, _, h⟩ => SqL.of (h _ _ (sJ _ _ hM8))) ?_ ?_⟩
          · rintro i y J2 hi' ⟨us, hU, hus, sU⟩
            have hi2 : i < ts.length := by
              have := (List.getElem?_eq_some_iff.mp hi').1
              simpa using this
            rw [List.getElem?_map, List.getElem?_eq_getElem hi2] at hi'
            obtain rfl := Option.some.inj hi'
            obtain ⟨m, hm', hm2⟩ := ((tp8.same sJ).same sU).get (List.getElem?_eq_getElem hi2)
            have et : ms.take (i + 1) = ms.take i ++ [m] := by rw [List.take_add_one, hm']; rfl
            refine ⟨_, _, rfl, .inl (.inl hm2), rfl, _, _, rfl, _, [], rfl, rfl, rfl, ?_⟩
            refine ⟨_, rfl, _, rfl, _, _, rfl, rfl, _, rfl, (by show 2 ≤ sizeLine; decide), fun u nu => ?_⟩
            have gu := same_new (o := .tup [.int (m.1 + sh), .int m.2]) nu
            have ul := hus.len
            unfold movM at ul
            rw [List.length_map, List.length_take] at ul
            have := fit.len
            refine ⟨_, gu _ _ hU, by rw [List.length_map]; exact small1000 (by omega), us ++ [u], ?_, ?_, fun c o e => ?_⟩
            · rw [upd_same, List.map_append]
              rfl
            · rw [et]
              unfold movM at hus ⊢
              rw [List.map_append]
              exact ((hus.same gu).snoc (m := (m.1 + sh, m.2)) upd_same).put (gu _ _ hU)
            · rw [upd_ne (ne_of_none e hE)]
              exact gu _ _ (sU c o e)
          · rintro J2 ⟨us, hU, hus, sU⟩
            rw [List.length_map, tl, List.take_length] at hus
            have s82 := sJ.trans sU
            refine ⟨D, E, y, l', d', movP ps sh, us, movM ms sh, _, some (.int sh), rfl, sU _ _ hJ', (w8.ne hD).symm, hU, ((w8.same sJ).ne hE).symm, hus, movP_ok hp sh, movM_fit fit sh, by unfold movM; rw [List.length_map]; omega, fun m hm' => ?_,
              ⟨cal8.same s82, realFit (movM_fit fit' sh), fun t => ?_⟩, (w7.ne ny).symm, (w7.ne nl').symm, (w7.ne nd').symm, (f06.trans f68).trans (Fr.of s82), (w8.same s82).mono (by omega)⟩
            · obtain ⟨m', h', rfl⟩ := List.mem_map.mp hm'
              have := hm.big m' h'
              exact ⟨by show -10 ^ 31 < m'.1 + sh; omega, by show m'.1 + sh < 10 ^ 31; omega⟩
            · rw [speed_real (movM_fit fit' sh).asc, mov_speed l0, mov_speed l0, speed_real fit.asc]
      · exact ⟨aP, aM, x, l, d, ps, ts, ms, _, none, rfl, hP6, nPp, h56, nMp, tp6, hp, fit, by omega, fun m h' => by have := hm.big m h'; omega, calOf_real cal fit, xp, lp, dp, f06, w6.mono (by omega)⟩
    rintro σ J ⟨aQ, b, x, l, d, qs, us, ks, rs, y6, rfl, hQ, nQ, hb, bp, up, hq, fk, kl, kb, cal, xp, lp, dp, fJ, wJ⟩
    have q0 := (sum_lo hq.lo).1
    have q1 := (sum_lo hq.lo).2
    have q2 := hq.len1
    refine ⟨_, rfl, _, rfl, ⟨p, b, _, us, ks, 12, rfl, wJ, by omega, hb, bp, up, kb, by omega, by decide, by decide, fun b0 J1 _ _ g1 w1' => ?_⟩⟩
    refine ⟨_, rfl, ⟨_, _, _, rfl, w1', by omega, by decide, by decide, fun b1 J2 _ _ g2 w2' => ⟨_, _, rfl, rfl, ?_⟩⟩⟩
    refine ⟨_, rfl, _, rfl, aQ, qs, rfl, SqL.of ((g1.trans g2) _ _ hQ nQ), ⟨p, _, _, rfl, w2', by omega, by omega, by omega, fun ld J3 d0 g3 w3' => ⟨_, _, rfl, ?_⟩⟩⟩
    refine ⟨_, rfl, _, rfl, ⟨p, _, _, rfl, w3', by omega, fun t J4 g4 w4' => ?_⟩⟩
    have gA := ((g1.trans g2).trans g3).trans g4
    have hQ4 := gA _ _ hQ nQ
    have hb4 := gA _ _ hb bp
    have up4 := up.fr wJ gA
    have cal4 := cal.cal.fr gA xp lp dp
    refine ⟨_, rfl, _, rfl, (by show 2 ≤ sizeLine; decide), fun a1 n1 => ?_⟩
    refine ⟨_, rfl, _, rfl, _, _, rfl, rfl, (by show 2 ≤ sizeLine; decide), fun a2 n2 => ?_⟩
    refine ⟨_, rfl, _, rfl, _, _, rfl, rfl, 0, _, rfl, (by show 2 ≤ sizeLine; decide), fun a3 n3 => ?_⟩
    refine ⟨_, rfl, _, _, rfl, rfl, _, rfl, (by show 2 ≤ sizeLine; decide), fun a4 n4 => ?_⟩
    refine ⟨_, rfl, _, rfl, _, _, rfl, rfl, _, rfl, (by show 2 ≤ sizeLine; decide), fun a5 n5 => ?_⟩
    refine ⟨(by show 5 ≤ sizeLine; decide), fun cL nL => ?_⟩
    have mx0 : 0 ≤ (if ld - 1 > 0 then ld - 1 else 0) := by split <;> omega
    generalize (if ld - 1 > 0 then ld - 1 else (0 : Int)) = mx at mx0 n4 n5 nL ⊢
    have e1 := same_new (o := .tup [.int t, .int ld]) n1
    have e2 := same_new (o := .tup [.int t, .int (ld + 1)]) n2
    have e3 := same_new (o := .tup [.int t, .int mx]) n3
    have e4 := same_new (o := .tup [.int (t - 1), .int ld]) n4
    have e5 := same_new (o := .tup [.int (t - (1 + z)), .int ld]) n5
    have e6 := same_new (o := .lst [.ref a1, .ref a2, .ref a3, .ref a4, .ref a5]) nL
    have tpL : Tups _ [a1, a2, a3, a4, a5] [(t, ld), (t, ld + 1), (t, mx), (t - 1, ld), (t - (1 + z), ld)] :=
      ⟨((((e2.trans e3).trans e4).trans e5).trans e6) _ _ upd_same, (((e3.trans e4).trans e5).trans e6) _ _ upd_same, ((e4.trans e5).trans e6) _ _ upd_same, (e5.trans e6) _ _ upd_same, e6 _ _ upd_same, trivial⟩
    have s46 := ((((e1.trans e2).trans e3).trans e4).trans e5).trans e6
    have hL := upd_same (H := upd (upd (upd (upd (upd J4 a1 (.tup [.int t, .int ld])) a2 (.tup [.int t, .int (ld + 1)])) a3 (.tup [.int t, .int mx])) a4 (.tup [.int (t - 1), .int ld])) a5 (.tup [.int (t - (1 + z)), .int ld])) (a := cL) (o := .lst [.ref a1, .ref a2, .ref a3, .ref a4, .ref a5])
    have pos : ∀ m ∈ [(t, ld), (t, ld + 1), (t, mx), (t - 1, ld), (t - (1 + z), ld)], 0 ≤ m.2 := by
      intro m h
      simp only [List.mem_cons, List.not_mem_nil, or_false] at h
      rcases h with rfl | rfl | rfl | rfl | rfl <;> (show (0 : Int) ≤ _; omega)
    generalize [(t, ld), (t, ld + 1), (t, mx), (t - 1, ld), (t - (1 + z), ld)] = L5 at tpL pos
    refine ⟨cL, rfl, ⟨_, SqL.of hL⟩, for_list (K := K) (a := cL) (xs := [a1, a2, a3, a4, a5].map V.ref) (fun i σ J => ∃ y9 y10 : Option V, σ = [some (.ref p), some (.int (1 + z)), some (.int way), some (.ref aQ), some (.ref b), some (.ref x), y6, some (.int t), some (.int ld), y9, y10, none] ∧ Same J4 J ∧ Tups J [a1, a2, a3, a4, a5] L5 ∧ J cL = some (.lst ([a1, a2, a3, a4, a5].map V.ref)))
      ⟨none, none, rfl, s46, tpL, hL⟩ (fun i σ J _ ⟨_, _, _, _, _, h⟩ => SqL.of h) ?_ ?_⟩
    · generalize [a1, a2, a3, a4, a5] = as
      rintro i y σ J5 hi' ⟨y9, y10, rfl, sJ, tpJ, hLJ⟩
      have hi2 : i < as.length := by
        have := (List.getElem?_eq_some_iff.mp hi').1
        simpa using this
      rw [List.getElem?_map, List.getElem?_eq_getElem hi2] at hi'
      obtain rfl := Option.some.inj hi'
      obtain ⟨⟨hg, nd⟩, hm', hm2⟩ := tpJ.get (List.getElem?_eq_getElem hi2)
      have nd0 : 0 ≤ nd := pos _ (List.mem_of_getElem? hm')
      refine ⟨_, _, rfl, .inl (.inl hm2), rfl, _, _, rfl, _, [], rfl, rfl, ?_⟩
      refine ⟨_, rfl, _, rfl, _, rfl, _, rfl, _, rfl, ⟨x, l, d, qs, rs, hg, nd, rfl, cal4.same sJ, hq, cal.fit, nd0, fun r J6 eb s6 => ?_⟩⟩
      have sJ6 := sJ.trans s6
      refine ⟨_, rfl, _, rfl, ⟨aQ, b, qs, us, ks, r, nd, hg, rfl, sJ6 _ _ hQ4, sJ6 _ _ hb4, up4.same sJ6, hq, fk, nd0, begin_cong hq.len0 cal.fit.asc fk.asc cal.sp eb, ?_⟩⟩
      refine ⟨_, rfl, ite2 (fun g => absurd g (by decide)) (fun _ => ?_)⟩
      exact ⟨_, _, rfl, sJ6, tpJ.same s6, s6 _ _ hLJ⟩
    · rintro σ J5 ⟨y9, y10, rfl, sJ, _, _⟩
      refine ⟨_, rfl, _, rfl, _, rfl, rfl, ⟨x, l, d, qs, rs, t, ld, rfl, cal4.same sJ, hq, cal.fit, d0, fun r1 J6 i1 s6 => ?_⟩⟩
      refine ⟨_, rfl, _, rfl, _, rfl, ⟨x, l, d, qs, rs, t, ld, rfl, (cal4.same sJ).same s6, hq, cal.fit, d0, fun r2 J7 i2 s7 => ?_⟩⟩
      obtain rfl := i1.one i2
      refine ⟨rfl, ?_⟩
      rw [decide_eq_true rfl]
      exact k _ ((fJ.trans gA).trans (Fr.of ((sJ.trans s6).trans s7))) ((w4'.same ((sJ.trans s6).trans s7)).mono (by omega))
end

section
theorem all_mk {l : PySem.W.OpenLaw} {w : World} {K : PySem.W.Frag} {h : Heap} {mg : Str → Option Value} {fa C f0 f1 f2 f3 f4 f5 f6 f7 f8 f9 f10 f11 f12 f13 f14 f15 f16 f17 f18 f19 f20 f21 f22 f23 f24 f25 f26 p26 f27 p27 f28 p28 : Addr} (X : K.In h) (G : h.Ns mainGlobals mg) (hfa : mg "law" = some (.ref fa))
    {oc0 kV0 dc0 pm0 cd0 ct0 : Value} {od0 an0 : Option Addr} {sl0 : Array (Option Value)}
    {oc1 kV1 dc1 pm1 cd1 ct1 : Value} {od1 an1 : Option Addr} {sl1 : Array (Option Value)}
    {oc2 kV2 dc2 pm2 cd2 ct2 : Value} {od2 an2 : Option Addr} {sl2 : Array (Option Value)}
    {oc3 kV3 dc3 pm3 cd3 ct3 : Value} {od3 an3 : Option Addr} {sl3 : Array (Option Value)}
    {oc4 kV4 dc4 pm4 cd4 ct4 : Value} {od4 an4 : Option Addr} {sl4 : Array (Option Value)}
    {oc5 kV5 dc5 pm5 cd5 ct5 : Value} {od5 an5 : Option Addr} {sl5 : Array (Option Value)}
    {oc6 kV6 dc6 pm6 cd6 ct6 : Value} {od6 an6 : Option Addr} {sl6 : Array (Option Value)}
    {oc7 kV7 dc7 pm7 cd7 ct7 : Value} {od7 an7 : Option Addr} {sl7 : Array (Option Value)}
    {oc8 kV8 dc8 pm8 cd8 ct8 : Value} {od8 an8 : Option Addr} {sl8 : Array (Option Value)}
    {oc9 kV9 dc9 pm9 cd9 ct9 : Value} {od9 an9 : Option Addr} {sl9 : Array (Option Value)}
    {oc10 kV10 dc10 pm10 cd10 ct10 : Value} {od10 an10 : Option Addr} {sl10 : Array (Option Value)}
    {oc11 kV11 dc11 pm11 cd11 ct11 : Value} {od11 an11 : Option Addr} {sl11 : Array (Option Value)}
    {oc12 kV12 dc12 pm12 cd12 ct12 : Value} {od12 an12 : Option Addr} {sl12 : Array (Option Value)}
    {oc13 kV13 dc13 pm13 cd13 ct13 : Value} {od13 an13 : Option Addr} {sl13 : Array (Option Value)}
    {oc14 kV14 dc14 pm14 cd14 ct14 : Value} {od14 an14 : Option Addr} {sl14 : Array (Option Value)}
    {oc15 kV15 dc15 pm15 cd15 ct15 : Value} {od15 an15 : Option Addr} {sl15 : Array (Option Value)}
    {oc16 kV16 dc16 pm16 cd16 ct16 : Value} {od16 an16 : Option Addr} {sl16 : Array (Option Value)}
    {oc17 kV17 dc17 pm17 cd17 ct17 : Value} {od17 an17 : Option Addr} {sl17 : Array (Option Value)}
    {oc18 kV18 dc18 pm18 cd18 ct18 : Value} {od18 an18 : Option Addr} {sl18 : Array (Option Value)}
    {oc19 kV19 dc19 pm19 cd19 ct19 : Value} {od19 an19 : Option Addr} {sl19 : Array (Option Value)}
    {oc20 kV20 dc20 pm20 cd20 ct20 : Value} {od20 an20 : Option Addr} {sl20 : Array (Option Value)}
    {oc21 kV21 dc21 pm21 cd21 ct21 : Value} {od21 an21 : Option Addr} {sl21 : Array (Option Value)}
    {oc22 kV22 dc22 pm22 cd22 ct22 : Value} {od22 an22 : Option Addr} {sl22 : Array (Option Value)}
    {oc23 kV23 dc23 pm23 cd23 ct23 : Value} {od23 an23 : Option Addr} {sl23 : Array (Option Value)}
    {oc24 kV24 dc24 pm24 cd24 ct24 : Value} {od24 an24 : Option Addr} {sl24 : Array (Option Value)}
    {oc25 kV25 dc25 pm25 cd25 ct25 : Value} {od25 an25 : Option Addr} {sl25 : Array (Option Value)}
    {rs26 : List Value}
    {oc26 kV26 dc26 pm26 cd26 ct26 : Value} {od26 an26 : Option Addr} {sl26 : Array (Option Value)}
    {rs27 : List Value}
    {oc27 kV27 dc27 pm27 cd27 ct27 : Value} {od27 an27 : Option Addr} {sl27 : Array (Option Value)}
    {rs28 : List Value}
    {oc28 kV28 dc28 pm28 cd28 ct28 : Value} {od28 an28 : Option Addr} {sl28 : Array (Option Value)}
    {t_GREATEST_WEEK : Tok}
    {t_GREATEST_SPEED : Tok}
    (aC : PySem.W.nsIn K mainGlobals "Calendar" = some (some (.ref C)))
    (a0 : PySem.W.nsIn K mainGlobals "check_week" = some (some (.ref f0)))
    (l0 : K.lookup f0 = some ⟨oc0, od0, .func (PySem.W.fnOf "check_week" "check_week" (defArgs sChkWeek) (defBody sChkWeek) (defScope sChkWeek) .none kV0 dc0 pm0 an0 cd0 ct0), sl0⟩)
    (c0 : PySem.W.codeIn K cd0 "check_week" = true)
    (k0 : PySem.W.keepIn K (.ref f0) = true)
    (a1 : PySem.W.nsIn K mainGlobals "check_amount" = some (some (.ref f1)))
    (l1 : K.lookup f1 = some ⟨oc1, od1, .func (PySem.W.fnOf "check_amount" "check_amount" (defArgs sAmount) (defBody sAmount) (defScope sAmount) .none kV1 dc1 pm1 an1 cd1 ct1), sl1⟩)
    (c1 : PySem.W.codeIn K cd1 "check_amount" = true)
    (k1 : PySem.W.keepIn K (.ref f1) = true)
    (a2 : PySem.W.nsIn K mainGlobals "is_behind" = some (some (.ref f2)))
    (l2 : K.lookup f2 = some ⟨oc2, od2, .func (PySem.W.fnOf "is_behind" "is_behind" (defArgs sBehind) (defBody sBehind) (defScope sBehind) .none kV2 dc2 pm2 an2 cd2 ct2), sl2⟩)
    (c2 : PySem.W.codeIn K cd2 "is_behind" = true)
    (k2 : PySem.W.keepIn K (.ref f2) = true)
    (a3 : PySem.W.nsIn K mainGlobals "is_speed" = some (some (.ref f3)))
    (l3 : K.lookup f3 = some ⟨oc3, od3, .func (PySem.W.fnOf "is_speed" "is_speed" (defArgs sIsSpeed) (defBody sIsSpeed) (defScope sIsSpeed) .none kV3 dc3 pm3 an3 cd3 ct3), sl3⟩)
    (c3 : PySem.W.codeIn K cd3 "is_speed" = true)
    (k3 : PySem.W.keepIn K (.ref f3) = true)
    (a4 : PySem.W.nsIn K mainGlobals "check_speeds" = some (some (.ref f4)))
    (l4 : K.lookup f4 = some ⟨oc4, od4, .func (PySem.W.fnOf "check_speeds" "check_speeds" (defArgs sChkSpeeds) (defBody sChkSpeeds) (defScope sChkSpeeds) .none kV4 dc4 pm4 an4 cd4 ct4), sl4⟩)
    (c4 : PySem.W.codeIn K cd4 "check_speeds" = true)
    (k4 : PySem.W.keepIn K (.ref f4) = true)
    (a5 : PySem.W.nsIn K mainGlobals "check_changes" = some (some (.ref f5)))
    (l5 : K.lookup f5 = some ⟨oc5, od5, .func (PySem.W.fnOf "check_changes" "check_changes" (defArgs sChkChanges) (defBody sChkChanges) (defScope sChkChanges) .none kV5 dc5 pm5 an5 cd5 ct5), sl5⟩)
    (c5 : PySem.W.codeIn K cd5 "check_changes" = true)
    (k5 : PySem.W.keepIn K (.ref f5) = true)
    (a6 : PySem.W.nsIn K mainGlobals "weekly_tally" = some (some (.ref f6)))
    (l6 : K.lookup f6 = some ⟨oc6, od6, .func (PySem.W.fnOf "weekly_tally" "weekly_tally" (defArgs sTally) (defBody sTally) (defScope sTally) .none kV6 dc6 pm6 an6 cd6 ct6), sl6⟩)
    (c6 : PySem.W.codeIn K cd6 "weekly_tally" = true)
    (k6 : PySem.W.keepIn K (.ref f6) = true)
    (a7 : PySem.W.nsIn K mainGlobals "weekly_work" = some (some (.ref f7)))
    (l7 : K.lookup f7 = some ⟨oc7, od7, .func (PySem.W.fnOf "weekly_work" "weekly_work" (defArgs sWWork) (defBody sWWork) (defScope sWWork) .none kV7 dc7 pm7 an7 cd7 ct7), sl7⟩)
    (c7 : PySem.W.codeIn K cd7 "weekly_work" = true)
    (k7 : PySem.W.keepIn K (.ref f7) = true)
    (a8 : PySem.W.nsIn K mainGlobals "weekly_due" = some (some (.ref f8)))
    (l8 : K.lookup f8 = some ⟨oc8, od8, .func (PySem.W.fnOf "weekly_due" "weekly_due" (defArgs sWDue) (defBody sWDue) (defScope sWDue) .none kV8 dc8 pm8 an8 cd8 ct8), sl8⟩)
    (c8 : PySem.W.codeIn K cd8 "weekly_due" = true)
    (k8 : PySem.W.keepIn K (.ref f8) = true)
    (a9 : PySem.W.nsIn K mainGlobals "mirrored" = some (some (.ref f9)))
    (l9 : K.lookup f9 = some ⟨oc9, od9, .func (PySem.W.fnOf "mirrored" "mirrored" (defArgs sMirror) (defBody sMirror) (defScope sMirror) .none kV9 dc9 pm9 an9 cd9 ct9), sl9⟩)
    (c9 : PySem.W.codeIn K cd9 "mirrored" = true)
    (k9 : PySem.W.keepIn K (.ref f9) = true)
    (a10 : PySem.W.nsIn K mainGlobals "due" = some (some (.ref f10)))
    (l10 : K.lookup f10 = some ⟨oc10, od10, .func (PySem.W.fnOf "due" "due" (defArgs sDue) (defBody sDue) (defScope sDue) .none kV10 dc10 pm10 an10 cd10 ct10), sl10⟩)
    (c10 : PySem.W.codeIn K cd10 "due" = true)
    (k10 : PySem.W.keepIn K (.ref f10) = true)
    (a11 : PySem.W.nsIn K mainGlobals "latest" = some (some (.ref f11)))
    (l11 : K.lookup f11 = some ⟨oc11, od11, .func (PySem.W.fnOf "latest" "latest" (defArgs sLatest) (defBody sLatest) (defScope sLatest) .none kV11 dc11 pm11 an11 cd11 ct11), sl11⟩)
    (c11 : PySem.W.codeIn K cd11 "latest" = true)
    (k11 : PySem.W.keepIn K (.ref f11) = true)
    (a12 : PySem.W.nsIn K mainGlobals "_law_well" = some (some (.ref f12)))
    (l12 : K.lookup f12 = some ⟨oc12, od12, .func (PySem.W.fnOf "_law_well" "_law_well" (defArgs sWell) (defBody sWell) (defScope sWell) .none kV12 dc12 pm12 an12 cd12 ct12), sl12⟩)
    (c12 : PySem.W.codeIn K cd12 "_law_well" = true)
    (k12 : PySem.W.keepIn K (.ref f12) = true)
    (a13 : PySem.W.nsIn K mainGlobals "_law_take" = some (some (.ref f13)))
    (l13 : K.lookup f13 = some ⟨oc13, od13, .func (PySem.W.fnOf "_law_take" "_law_take" (defArgs sTake) (defBody sTake) (defScope sTake) .none kV13 dc13 pm13 an13 cd13 ct13), sl13⟩)
    (c13 : PySem.W.codeIn K cd13 "_law_take" = true)
    (k13 : PySem.W.keepIn K (.ref f13) = true)
    (a14 : PySem.W.nsIn K mainGlobals "_law_number" = some (some (.ref f14)))
    (l14 : K.lookup f14 = some ⟨oc14, od14, .func (PySem.W.fnOf "_law_number" "_law_number" (defArgs sNumber) (defBody sNumber) (defScope sNumber) .none kV14 dc14 pm14 an14 cd14 ct14), sl14⟩)
    (c14 : PySem.W.codeIn K cd14 "_law_number" = true)
    (k14 : PySem.W.keepIn K (.ref f14) = true)
    (a15 : PySem.W.nsIn K mainGlobals "_law_load" = some (some (.ref f15)))
    (l15 : K.lookup f15 = some ⟨oc15, od15, .func (PySem.W.fnOf "_law_load" "_law_load" (defArgs sLoad) (defBody sLoad) (defScope sLoad) .none kV15 dc15 pm15 an15 cd15 ct15), sl15⟩)
    (c15 : PySem.W.codeIn K cd15 "_law_load" = true)
    (k15 : PySem.W.keepIn K (.ref f15) = true)
    (a16 : PySem.W.nsIn K mainGlobals "_law_paces" = some (some (.ref f16)))
    (l16 : K.lookup f16 = some ⟨oc16, od16, .func (PySem.W.fnOf "_law_paces" "_law_paces" (defArgs sPaces) (defBody sPaces) (defScope sPaces) .none kV16 dc16 pm16 an16 cd16 ct16), sl16⟩)
    (c16 : PySem.W.codeIn K cd16 "_law_paces" = true)
    (k16 : PySem.W.keepIn K (.ref f16) = true)
    (a17 : PySem.W.nsIn K mainGlobals "_law_marks" = some (some (.ref f17)))
    (l17 : K.lookup f17 = some ⟨oc17, od17, .func (PySem.W.fnOf "_law_marks" "_law_marks" (defArgs sMarks) (defBody sMarks) (defScope sMarks) .none kV17 dc17 pm17 an17 cd17 ct17), sl17⟩)
    (c17 : PySem.W.codeIn K cd17 "_law_marks" = true)
    (k17 : PySem.W.keepIn K (.ref f17) = true)
    (a18 : PySem.W.nsIn K mainGlobals "_law_near" = some (some (.ref f18)))
    (l18 : K.lookup f18 = some ⟨oc18, od18, .func (PySem.W.fnOf "_law_near" "_law_near" (defArgs sNear) (defBody sNear) (defScope sNear) .none kV18 dc18 pm18 an18 cd18 ct18), sl18⟩)
    (c18 : PySem.W.codeIn K cd18 "_law_near" = true)
    (k18 : PySem.W.keepIn K (.ref f18) = true)
    (a19 : PySem.W.nsIn K mainGlobals "_law_total" = some (some (.ref f19)))
    (l19 : K.lookup f19 = some ⟨oc19, od19, .func (PySem.W.fnOf "_law_total" "_law_total" (defArgs sTotal) (defBody sTotal) (defScope sTotal) .none kV19 dc19 pm19 an19 cd19 ct19), sl19⟩)
    (c19 : PySem.W.codeIn K cd19 "_law_total" = true)
    (k19 : PySem.W.keepIn K (.ref f19) = true)
    (a20 : PySem.W.nsIn K mainGlobals "_law_edge" = some (some (.ref f20)))
    (l20 : K.lookup f20 = some ⟨oc20, od20, .func (PySem.W.fnOf "_law_edge" "_law_edge" (defArgs sEdge) (defBody sEdge) (defScope sEdge) .none kV20 dc20 pm20 an20 cd20 ct20), sl20⟩)
    (c20 : PySem.W.codeIn K cd20 "_law_edge" = true)
    (k20 : PySem.W.keepIn K (.ref f20) = true)
    (a21 : PySem.W.nsIn K mainGlobals "_law_is_begin" = some (some (.ref f21)))
    (l21 : K.lookup f21 = some ⟨oc21, od21, .func (PySem.W.fnOf "_law_is_begin" "_law_is_begin" (defArgs sIsBegin) (defBody sIsBegin) (defScope sIsBegin) .none kV21 dc21 pm21 an21 cd21 ct21), sl21⟩)
    (c21 : PySem.W.codeIn K cd21 "_law_is_begin" = true)
    (k21 : PySem.W.keepIn K (.ref f21) = true)
    (a22 : PySem.W.nsIn K mainGlobals "_law_fits" = some (some (.ref f22)))
    (l22 : K.lookup f22 = some ⟨oc22, od22, .func (PySem.W.fnOf "_law_fits" "_law_fits" (defArgs sFits) (defBody sFits) (defScope sFits) .none kV22 dc22 pm22 an22 cd22 ct22), sl22⟩)
    (c22 : PySem.W.codeIn K cd22 "_law_fits" = true)
    (k22 : PySem.W.keepIn K (.ref f22) = true)
    (a23 : PySem.W.nsIn K mainGlobals "law" = some (some (.ref f23)))
    (l23 : K.lookup f23 = some ⟨oc23, od23, .func (PySem.W.fnOf "law" "law" (defArgs sLaw) (defBody sLaw) (defScope sLaw) .none kV23 dc23 pm23 an23 cd23 ct23), sl23⟩)
    (c23 : PySem.W.codeIn K cd23 "law" = true)
    (k23 : PySem.W.keepIn K (.ref f23) = true)
    (a24 : PySem.W.findIn K (.ref C) "__init__" = some (some (.ref f24)))
    (i24 : PySem.W.isFn K (.ref f24) = true)
    (j24 : PySem.W.fnIn K f24 = true)
    (l24 : K.lookup f24 = some ⟨oc24, od24, .func (PySem.W.fnOf "__init__" "Calendar.__init__" (defArgs sInit) (defBody sInit) (defScope sInit) .none kV24 dc24 pm24 an24 cd24 ct24), sl24⟩)
    (c24 : PySem.W.codeIn K cd24 "Calendar.__init__" = true)
    (k24 : PySem.W.keepIn K (.ref f24) = true)
    (a25 : PySem.W.findIn K (.ref C) "moved" = some (some (.ref f25)))
    (i25 : PySem.W.isFn K (.ref f25) = true)
    (j25 : PySem.W.fnIn K f25 = true)
    (l25 : K.lookup f25 = some ⟨oc25, od25, .func (PySem.W.fnOf "moved" "Calendar.moved" (defArgs sMoved) (defBody sMoved) (defScope sMoved) .none kV25 dc25 pm25 an25 cd25 ct25), sl25⟩)
    (c25 : PySem.W.codeIn K cd25 "Calendar.moved" = true)
    (k25 : PySem.W.keepIn K (.ref f25) = true)
    (a26 : PySem.W.findIn K (.ref C) "week" = some (some (.ref p26)))
    (g26 : PySem.W.specialIn K (.ref p26) "__get__" = some (some (.builtin "property.__get__")))
    (t26 : PySem.W.takesIn K (.ref p26) = some true)
    (r26 : PySem.W.recIn K p26 "property" = some (.ref f26 :: rs26))
    (l26 : K.lookup f26 = some ⟨oc26, od26, .func (PySem.W.fnOf "week" "Calendar.week" (defArgs sWeek) (defBody sWeek) (defScope sWeek) .none kV26 dc26 pm26 an26 cd26 ct26), sl26⟩)
    (c26 : PySem.W.codeIn K cd26 "Calendar.week" = true)
    (k26 : PySem.W.keepIn K (.ref f26) = true)
    (a27 : PySem.W.findIn K (.ref C) "speeds" = some (some (.ref p27)))
    (g27 : PySem.W.specialIn K (.ref p27) "__get__" = some (some (.builtin "property.__get__")))
    (t27 : PySem.W.takesIn K (.ref p27) = some true)
    (r27 : PySem.W.recIn K p27 "property" = some (.ref f27 :: rs27))
    (l27 : K.lookup f27 = some ⟨oc27, od27, .func (PySem.W.fnOf "speeds" "Calendar.speeds" (defArgs sSpeeds) (defBody sSpeeds) (defScope sSpeeds) .none kV27 dc27 pm27 an27 cd27 ct27), sl27⟩)
    (c27 : PySem.W.codeIn K cd27 "Calendar.speeds" = true)
    (k27 : PySem.W.keepIn K (.ref f27) = true)
    (a28 : PySem.W.findIn K (.ref C) "changes" = some (some (.ref p28)))
    (g28 : PySem.W.specialIn K (.ref p28) "__get__" = some (some (.builtin "property.__get__")))
    (t28 : PySem.W.takesIn K (.ref p28) = some true)
    (r28 : PySem.W.recIn K p28 "property" = some (.ref f28 :: rs28))
    (l28 : K.lookup f28 = some ⟨oc28, od28, .func (PySem.W.fnOf "changes" "Calendar.changes" (defArgs sChanges) (defBody sChanges) (defScope sChanges) .none kV28 dc28 pm28 an28 cd28 ct28), sl28⟩)
    (c28 : PySem.W.codeIn K cd28 "Calendar.changes" = true)
    (k28 : PySem.W.keepIn K (.ref f28) = true)
    (z_int : PySem.W.nsIn K mainGlobals "int" = some none)
    (z_len : PySem.W.nsIn K mainGlobals "len" = some none)
    (z_abs : PySem.W.nsIn K mainGlobals "abs" = some none)
    (z_max : PySem.W.nsIn K mainGlobals "max" = some none)
    (z_min : PySem.W.nsIn K mainGlobals "min" = some none)
    (z_range : PySem.W.nsIn K mainGlobals "range" = some none)
    (z_repr : PySem.W.nsIn K mainGlobals "repr" = some none)
    (z_list : PySem.W.nsIn K mainGlobals "list" = some none)
    (z_enumerate : PySem.W.nsIn K mainGlobals "enumerate" = some none)
    (z_sum : PySem.W.nsIn K mainGlobals "sum" = some none)
    (z_divmod : PySem.W.nsIn K mainGlobals "divmod" = some none)
    (z_sorted : PySem.W.nsIn K mainGlobals "sorted" = some none)
    (z_zip : PySem.W.nsIn K mainGlobals "zip" = some none)
    (z_set : PySem.W.nsIn K mainGlobals "set" = some none)
    (z_isinstance : PySem.W.nsIn K mainGlobals "isinstance" = some none)
    (z_bool : PySem.W.nsIn K mainGlobals "bool" = some none)
    (q_GREATEST_WEEK : PySem.W.nsIn K mainGlobals "GREATEST_WEEK" = some (some (.int 12 t_GREATEST_WEEK)))
    (q_GREATEST_SPEED : PySem.W.nsIn K mainGlobals "GREATEST_SPEED" = some (some (.int 3 t_GREATEST_SPEED)))
    (pgC : PySem.W.plainGet K C Str.empty = true)
    (hdC : PySem.W.hasDictIn K C = true)
    (poC : PySem.W.plainOver K C = true)
    (saC : PySem.W.findIn K (.ref C) "__setattr__" = some (some (.builtin "object.__setattr__")))
    (mkC : PySem.W.makesIn K C = true)
    (kcC : PySem.W.keepIn K (.ref C) = true)
    (n_speeds : PySem.W.findIn K (.ref C) "_speeds" = some none)
    (n_changes : PySem.W.findIn K (.ref C) "_changes" = some none) :
    ∃ fd : FuncData, (∀ (s : Shared) (v : Value), BindsTo s fd ⟨[v], []⟩ [("script", v)]) ∧ ∀ base : Heap, K.In base → base.Ns mainGlobals mg → FnG l.prog w K mg base 9 fa fd ["script"] (spLaw K) := by
  have e := hfa.symm.trans (PySem.W.mg_of X G a23)
  cases e
  have F_sChkWeek := fun_mk (st := sChkWeek) l0 c0 k0
  have b_sChkWeek := F_sChkWeek.binds (ps := ["number"]) fun _ _ _ _ _ _ us hl => match us, hl with | [_], _ => rfl
  have m_sChkWeek := PySem.W.mg_of X G a0
  have k_sChkWeek := k0
  have F_sAmount := fun_mk (st := sAmount) l1 c1 k1
  have b_sAmount := F_sAmount.binds (ps := ["amount"]) fun _ _ _ _ _ _ us hl => match us, hl with | [_], _ => rfl
  have m_sAmount := PySem.W.mg_of X G a1
  have k_sAmount := k1
  have F_sBehind := fun_mk (st := sBehind) l2 c2 k2
  have b_sBehind := F_sBehind.binds (ps := ["changes", "index"]) fun _ _ _ _ _ _ us hl => match us, hl with | [_, _], _ => rfl
  have m_sBehind := PySem.W.mg_of X G a2
  have k_sBehind := k2
  have F_sIsSpeed := fun_mk (st := sIsSpeed) l3 c3 k3
  have b_sIsSpeed := F_sIsSpeed.binds (ps := ["number"]) fun _ _ _ _ _ _ us hl => match us, hl with | [_], _ => rfl
  have m_sIsSpeed := PySem.W.mg_of X G a3
  have k_sIsSpeed := k3
  have F_sChkSpeeds := fun_mk (st := sChkSpeeds) l4 c4 k4
  have b_sChkSpeeds := F_sChkSpeeds.binds (ps := ["speeds"]) fun _ _ _ _ _ _ us hl => match us, hl with | [_], _ => rfl
  have m_sChkSpeeds := PySem.W.mg_of X G a4
  have k_sChkSpeeds := k4
  have F_sChkChanges := fun_mk (st := sChkChanges) l5 c5 k5
  have b_sChkChanges := F_sChkChanges.binds (ps := ["changes"]) fun _ _ _ _ _ _ us hl => match us, hl with | [_], _ => rfl
  have m_sChkChanges := PySem.W.mg_of X G a5
  have k_sChkChanges := k5
  have F_sTally := fun_mk (st := sTally) l6 c6 k6
  have b_sTally := F_sTally.binds (ps := ["speeds", "moment"]) fun _ _ _ _ _ _ us hl => match us, hl with | [_, _], _ => rfl
  have m_sTally := PySem.W.mg_of X G a6
  have k_sTally := k6
  have F_sWWork := fun_mk (st := sWWork) l7 c7 k7
  have b_sWWork := F_sWWork.binds (ps := ["speeds", "begin", "end"]) fun _ _ _ _ _ _ us hl => match us, hl with | [_, _, _], _ => rfl
  have m_sWWork := PySem.W.mg_of X G a7
  have k_sWWork := k7
  have F_sWDue := fun_mk (st := sWDue) l8 c8 k8
  have b_sWDue := F_sWDue.binds (ps := ["speeds", "begin", "left"]) fun _ _ _ _ _ _ us hl => match us, hl with | [_, _, _], _ => rfl
  have m_sWDue := PySem.W.mg_of X G a8
  have k_sWDue := k8
  have F_sMirror := fun_mk (st := sMirror) l9 c9 k9
  have b_sMirror := F_sMirror.binds (ps := ["calendar"]) fun _ _ _ _ _ _ us hl => match us, hl with | [_], _ => rfl
  have m_sMirror := PySem.W.mg_of X G a9
  have k_sMirror := k9
  have F_sDue := fun_mk (st := sDue) l10 c10 k10
  have b_sDue := F_sDue.binds (ps := ["calendar", "moment", "amount"]) fun _ _ _ _ _ _ us hl => match us, hl with | [_, _, _], _ => rfl
  have m_sDue := PySem.W.mg_of X G a10
  have k_sDue := k10
  have F_sLatest := fun_mk (st := sLatest) l11 c11 k11
  have b_sLatest := F_sLatest.binds (ps := ["calendar", "moment", "amount"]) fun _ _ _ _ _ _ us hl => match us, hl with | [_, _, _], _ => rfl
  have m_sLatest := PySem.W.mg_of X G a11
  have k_sLatest := k11
  have F_sWell := fun_mk (st := sWell) l12 c12 k12
  have b_sWell := F_sWell.binds (ps := ["script", "place"]) fun _ _ _ _ _ _ us hl => match us, hl with | [_, _], _ => rfl
  have m_sWell := PySem.W.mg_of X G a12
  have k_sWell := k12
  have F_sTake := fun_mk (st := sTake) l13 c13 k13
  have b_sTake := F_sTake.binds (ps := ["well", "many"]) fun _ _ _ _ _ _ us hl => match us, hl with | [_, _], _ => rfl
  have m_sTake := PySem.W.mg_of X G a13
  have k_sTake := k13
  have F_sNumber := fun_mk (st := sNumber) l14 c14 k14
  have b_sNumber := F_sNumber.binds (ps := ["well"]) fun _ _ _ _ _ _ us hl => match us, hl with | [_], _ => rfl
  have m_sNumber := PySem.W.mg_of X G a14
  have k_sNumber := k14
  have F_sLoad := fun_mk (st := sLoad) l15 c15 k15
  have b_sLoad := F_sLoad.binds (ps := ["well", "total"]) fun _ _ _ _ _ _ us hl => match us, hl with | [_, _], _ => rfl
  have m_sLoad := PySem.W.mg_of X G a15
  have k_sLoad := k15
  have F_sPaces := fun_mk (st := sPaces) l16 c16 k16
  have b_sPaces := F_sPaces.binds (ps := ["well", "size"]) fun _ _ _ _ _ _ us hl => match us, hl with | [_, _], _ => rfl
  have m_sPaces := PySem.W.mg_of X G a16
  have k_sPaces := k16
  have F_sMarks := fun_mk (st := sMarks) l17 c17 k17
  have b_sMarks := F_sMarks.binds (ps := ["well", "size", "cap"]) fun _ _ _ _ _ _ us hl => match us, hl with | [_, _, _], _ => rfl
  have m_sMarks := PySem.W.mg_of X G a17
  have k_sMarks := k17
  have F_sNear := fun_mk (st := sNear) l18 c18 k18
  have b_sNear := F_sNear.binds (ps := ["well", "marks", "back"]) fun _ _ _ _ _ _ us hl => match us, hl with | [_, _, _], _ => rfl
  have m_sNear := PySem.W.mg_of X G a18
  have k_sNear := k18
  have F_sTotal := fun_mk (st := sTotal) l19 c19 k19
  have b_sTotal := F_sTotal.binds (ps := ["paces", "marks", "low", "high"]) fun _ _ _ _ _ _ us hl => match us, hl with | [_, _, _, _], _ => rfl
  have m_sTotal := PySem.W.mg_of X G a19
  have k_sTotal := k19
  have F_sEdge := fun_mk (st := sEdge) l20 c20 k20
  have b_sEdge := F_sEdge.binds (ps := ["well", "at"]) fun _ _ _ _ _ _ us hl => match us, hl with | [_, _], _ => rfl
  have m_sEdge := PySem.W.mg_of X G a20
  have k_sEdge := k20
  have F_sIsBegin := fun_mk (st := sIsBegin) l21 c21 k21
  have b_sIsBegin := F_sIsBegin.binds (ps := ["paces", "marks", "low", "load", "high"]) fun _ _ _ _ _ _ us hl => match us, hl with | [_, _, _, _, _], _ => rfl
  have m_sIsBegin := PySem.W.mg_of X G a21
  have k_sIsBegin := k21
  have F_sFits := fun_mk (st := sFits) l22 c22 k22
  have b_sFits := F_sFits.binds (ps := ["well"]) fun _ _ _ _ _ _ us hl => match us, hl with | [_], _ => rfl
  have m_sFits := PySem.W.mg_of X G a22
  have k_sFits := k22
  have F_sLaw := fun_mk (st := sLaw) l23 c23 k23
  have b_sLaw := F_sLaw.binds (ps := ["script"]) fun _ _ _ _ _ _ us hl => match us, hl with | [_], _ => rfl
  have m_sLaw := PySem.W.mg_of X G a23
  have k_sLaw := k23
  have o_sInit : Own K C "__init__" f24 := ⟨a24, i24, j24⟩
  have F_sInit := fun_mk (st := sInit) l24 c24 k24
  have b_sInit := F_sInit.binds (ps := ["self", "speeds", "changes"]) fun _ _ _ _ _ _ us hl => match us, hl with | [_, _, _], _ => rfl
  have h_sInit : Meth K C "__init__" f24 := ⟨a24, i24, k24⟩
  have MK : Mk K C f24 := ⟨mkC, a24, i24, kcC⟩
  have o_sMoved : Own K C "moved" f25 := ⟨a25, i25, j25⟩
  have F_sMoved := fun_mk (st := sMoved) l25 c25 k25
  have b_sMoved := F_sMoved.binds (ps := ["self", "number"]) fun _ _ _ _ _ _ us hl => match us, hl with | [_, _], _ => rfl
  have h_sMoved : Meth K C "moved" f25 := ⟨a25, i25, k25⟩
  have F_sWeek := fun_mk (st := sWeek) l26 c26 k26
  have b_sWeek := F_sWeek.binds (ps := ["self"]) fun _ _ _ _ _ _ us hl => match us, hl with | [_], _ => rfl
  have P_sWeek : PropOf K C "week" p26 f26 := ⟨a26, g26, t26, _, r26⟩
  have F_sSpeeds := fun_mk (st := sSpeeds) l27 c27 k27
  have b_sSpeeds := F_sSpeeds.binds (ps := ["self"]) fun _ _ _ _ _ _ us hl => match us, hl with | [_], _ => rfl
  have P_sSpeeds : PropOf K C "speeds" p27 f27 := ⟨a27, g27, t27, _, r27⟩
  have F_sChanges := fun_mk (st := sChanges) l28 c28 k28
  have b_sChanges := F_sChanges.binds (ps := ["self"]) fun _ _ _ _ _ _ us hl => match us, hl with | [_], _ => rfl
  have P_sChanges : PropOf K C "changes" p28 f28 := ⟨a28, g28, t28, _, r28⟩
  have n_int : mg "int" = none := PySem.W.mg_none_of X G z_int
  have n_len : mg "len" = none := PySem.W.mg_none_of X G z_len
  have n_abs : mg "abs" = none := PySem.W.mg_none_of X G z_abs
  have n_max : mg "max" = none := PySem.W.mg_none_of X G z_max
  have n_min : mg "min" = none := PySem.W.mg_none_of X G z_min
  have n_range : mg "range" = none := PySem.W.mg_none_of X G z_range
  have n_repr : mg "repr" = none := PySem.W.mg_none_of X G z_repr
  have n_list : mg "list" = none := PySem.W.mg_none_of X G z_list
  have n_enumerate : mg "enumerate" = none := PySem.W.mg_none_of X G z_enumerate
  have n_sum : mg "sum" = none := PySem.W.mg_none_of X G z_sum
  have n_divmod : mg "divmod" = none := PySem.W.mg_none_of X G z_divmod
  have n_sorted : mg "sorted" = none := PySem.W.mg_none_of X G z_sorted
  have n_zip : mg "zip" = none := PySem.W.mg_none_of X G z_zip
  have n_set : mg "set" = none := PySem.W.mg_none_of X G z_set
  have n_isinstance : mg "isinstance" = none := PySem.W.mg_none_of X G z_isinstance
  have n_bool : mg "bool" = none := PySem.W.mg_none_of X G z_bool
  have v_GREATEST_WEEK := PySem.W.mg_of X G q_GREATEST_WEEK
  have v_GREATEST_SPEED := PySem.W.mg_of X G q_GREATEST_SPEED
  have mgC := PySem.W.mg_of X G aC
  have clC : Cls K C := ⟨pgC, hdC, poC, saC⟩
  refine ⟨PySem.W.fnOf "law" "law" (defArgs sLaw) (defBody sLaw) (defScope sLaw) .none kV23 dc23 pm23 an23 cd23 ct23, fun s v => .of_eq rfl, fun base _ _ => ?_⟩
  have T : Blt mg := ⟨n_int, n_len, n_abs, n_max, n_min, n_range, n_repr, n_list⟩
  have Q : Con mg := ⟨⟨_, v_GREATEST_WEEK⟩, ⟨_, v_GREATEST_SPEED⟩, n_enumerate⟩
  have Z : Cal K mg C := ⟨clC, n_speeds, n_changes, mgC⟩
  have T2 : Blt2 mg := ⟨n_sum, n_divmod⟩
  have IS : At l.prog w K mg base 1 "is_speed" ["number"] spIsSpeed _ _ := ⟨ok_isSpeed F_sIsSpeed Q, m_sIsSpeed, k_sIsSpeed, b_sIsSpeed⟩
  have S1 : At l.prog w K mg base 2 "check_speeds" ["speeds"] (spChkS K) _ _ := ⟨ok_chkS F_sChkSpeeds Q T IS ⟨ok_chkW F_sChkWeek Q, m_sChkWeek, k_sChkWeek, b_sChkWeek⟩, m_sChkSpeeds, k_sChkSpeeds, b_sChkSpeeds⟩
  have S2 : At l.prog w K mg base 2 "check_changes" ["changes"] (spChkC K) _ _ := ⟨ok_chkC F_sChkChanges Q T IS ⟨ok_behind F_sBehind, m_sBehind, k_sBehind, b_sBehind⟩, m_sChkChanges, k_sChkChanges, b_sChkChanges⟩
  have GI : FnOk l.prog w K mg base CX0 3 _ _ ["self", "speeds", "changes"] (spInit C K) := ok_init F_sInit Z T S1 S2
  have L : Tk l.prog w K mg base _ _ := ⟨ok_take F_sTake T, m_sTake, k_sTake, b_sTake⟩
  have B : Nb l.prog w K mg base _ _ := ⟨ok_number F_sNumber T L, m_sNumber, k_sNumber, b_sNumber⟩
  have W : At l.prog w K mg base 1 "_law_well" ["script", "place"] (spWell K) _ _ := ⟨ok_well F_sWell T, m_sWell, k_sWell, b_sWell⟩
  have Pa : At l.prog w K mg base 2 "_law_paces" ["well", "size"] spPaces _ _ := ⟨ok_paces F_sPaces T L, m_sPaces, k_sPaces, b_sPaces⟩
  have Ma : At l.prog w K mg base 3 "_law_marks" ["well", "size", "cap"] spMarks _ _ := ⟨ok_marks F_sMarks T L B, m_sMarks, k_sMarks, b_sMarks⟩
  have W1 : Pp l.prog w K mg base C "week" (spWeek C) _ _ _ := ⟨P_sWeek, ok_week F_sWeek Z T, b_sWeek⟩
  have W2 : Pp l.prog w K mg base C "speeds" (spSpeeds C) _ _ _ := ⟨P_sSpeeds, ok_speeds F_sSpeeds Z T, b_sSpeeds⟩
  have W3 : Pp l.prog w K mg base C "changes" (spChanges C) _ _ _ := ⟨P_sChanges, ok_changes F_sChanges Z T, b_sChanges⟩
  have Am : At l.prog w K mg base 1 "check_amount" ["amount"] spAmount _ _ := ⟨ok_amount F_sAmount, m_sAmount, k_sAmount, b_sAmount⟩
  have Ta : At l.prog w K mg base 1 "weekly_tally" ["speeds", "moment"] spTally _ _ := ⟨ok_tally F_sTally T T2, m_sTally, k_sTally, b_sTally⟩
  have Ww : At l.prog w K mg base 2 "weekly_work" ["speeds", "begin", "end"] spWWork _ _ := ⟨ok_wwork F_sWWork Ta, m_sWWork, k_sWWork, b_sWWork⟩
  have Wd : At l.prog w K mg base 1 "weekly_due" ["speeds", "begin", "left"] spWDue _ _ := ⟨ok_wdue F_sWDue T T2, m_sWDue, k_sWDue, b_sWDue⟩
  have Du : At l.prog w K mg base 3 "due" ["calendar", "moment", "amount"] (spDue C) _ _ := ⟨ok_due F_sDue Z Am Ww Wd W2 W3, m_sDue, k_sDue, b_sDue⟩
  have Mi : At l.prog w K mg base 5 "mirrored" ["calendar"] (spMirror C) _ _ := ⟨ok_mirror F_sMirror Z MK GI b_sInit W2 W3, m_sMirror, k_sMirror, b_sMirror⟩
  have Lt : At l.prog w K mg base 6 "latest" ["calendar", "moment", "amount"] (spLatest C) _ _ := ⟨ok_latest F_sLatest Mi Du, m_sLatest, k_sLatest, b_sLatest⟩
  have GV : FnOk l.prog w K mg base CX0 5 _ _ ["self", "number"] (spMoved C) := ok_moved F_sMoved T Z MK GI b_sInit W1 W3
  have Ne : At l.prog w K mg base 3 "_law_near" ["well", "marks", "back"] spNear _ _ := ⟨ok_near F_sNear T L B, m_sNear, k_sNear, b_sNear⟩
  have To : At l.prog w K mg base 1 "_law_total" ["paces", "marks", "low", "high"] spTotal _ _ := ⟨ok_total F_sTotal T T2, m_sTotal, k_sTotal, b_sTotal⟩
  have Ed : At l.prog w K mg base 2 "_law_edge" ["well", "at"] spEdge _ _ := ⟨ok_edge F_sEdge L, m_sEdge, k_sEdge, b_sEdge⟩
  have Lo : At l.prog w K mg base 2 "_law_load" ["well", "total"] spLoad _ _ := ⟨ok_load F_sLoad T L, m_sLoad, k_sLoad, b_sLoad⟩
  have Ib : At l.prog w K mg base 2 "_law_is_begin" ["paces", "marks", "low", "load", "high"] spIsBegin _ _ := ⟨ok_isBegin F_sIsBegin T ⟨n_isinstance, n_bool⟩ To, m_sIsBegin, k_sIsBegin, b_sIsBegin⟩
  have GF : FnG l.prog w K mg base 8 _ _ ["well"] spFits := ok_fits F_sFits T T2 Z L B Pa Ma MK GI b_sInit Ne Ed Lo Ib Lt (kb_latest F_sLatest) h_sMoved GV b_sMoved
  exact ok_law (by decide) F_sLaw T W GF m_sFits k_sFits b_sFits
end
end DK
open PySem PySem.W PyProof.Rows
set_option maxRecDepth 100000 in
set_option maxHeartbeats 0 in
theorem PySem.Challenge.cw_dueclocks_k13_latest_begins_holds : PySem.Challenge.rw_dueclocks_k13_latest_begins.Holds := by
  w_on; o_law; k_head; (case hw => w_witness2)
  k_fill
  refine DK.walkG (l := PySem.Challenge.rw_dueclocks_k13_latest_begins) (n := 63) (k := 9) (x := "script") (sp := DK.spLaw) rfl (by decide) rfl ⟨rfl, by decide, by decide⟩ (fun w h Y => PySem.W.kIn_of Y) ?F (fun J H a ns hl hO hS => ⟨a, ns, rfl, DK.Scr.of hO hS, hl, fun _ => rfl⟩)
  case F =>
    intro w mg fa h KX G hmg
    refine' DK.all_mk KX G hmg ?aC ?a0 ?l0 ?c0 ?k0 ?a1 ?l1 ?c1 ?k1 ?a2 ?l2 ?c2 ?k2 ?a3 ?l3 ?c3 ?k3 ?a4 ?l4 ?c4 ?k4 ?a5 ?l5 ?c5 ?k5 ?a6 ?l6 ?c6 ?k6 ?a7 ?l7 ?c7 ?k7 ?a8 ?l8 ?c8 ?k8 ?a9 ?l9 ?c9 ?k9 ?a10 ?l10 ?c10 ?k10 ?a11 ?l11 ?c11 ?k11 ?a12 ?l12 ?c12 ?k12 ?a13 ?l13 ?c13 ?k13 ?a14 ?l14 ?c14 ?k14 ?a15 ?l15 ?c15 ?k15 ?a16 ?l16 ?c16 ?k16 ?a17 ?l17 ?c17 ?k17 ?a18 ?l18 ?c18 ?k18 ?a19 ?l19 ?c19 ?k19 ?a20 ?l20 ?c20 ?k20 ?a21 ?l21 ?c21 ?k21 ?a22 ?l22 ?c22 ?k22 ?a23 ?l23 ?c23 ?k23 ?a24 ?i24 ?j24 ?l24 ?c24 ?k24 ?a25 ?i25 ?j25 ?l25 ?c25 ?k25 ?a26 ?g26 ?t26 ?r26 ?l26 ?c26 ?k26 ?a27 ?g27 ?t27 ?r27 ?l27 ?c27 ?k27 ?a28 ?g28 ?t28 ?r28 ?l28 ?c28 ?k28 ?z_int ?z_len ?z_abs ?z_max ?z_min ?z_range ?z_repr ?z_list ?z_enumerate ?z_sum ?z_divmod ?z_sorted ?z_zip ?z_set ?z_isinstance ?z_bool ?q_GREATEST_WEEK ?q_GREATEST_SPEED ?pgC ?hdC ?poC ?saC ?mkC ?kcC ?n_speeds ?n_changes
    (case aC => k_is)
    (case a0 => k_is)
    (case l0 => k_is)
    (case c0 => k_is)
    (case k0 => k_is)
    (case a1 => k_is)
    (case l1 => k_is)
    (case c1 => k_is)
    (case k1 => k_is)
    (case a2 => k_is)
    (case l2 => k_is)
    (case c2 => k_is)
    (case k2 => k_is)
    (case a3 => k_is)
    (case l3 => k_is)
    (case c3 => k_is)
    (case k3 => k_is)
    (case a4 => k_is)
    (case l4 => k_is)
    (case c4 => k_is)
    (case k4 => k_is)
    (case a5 => k_is)
    (case l5 => k_is)
    (case c5 => k_is)
    (case k5 => k_is)
    (case a6 => k_is)
    (case l6 => k_is)
    (case c6 => k_is)
    (case k6 => k_is)
    (case a7 => k_is)
    (case l7 => k_is)
    (case c7 => k_is)
    (case k7 => k_is)
    (case a8 => k_is)
    (case l8 => k_is)
    (case c8 => k_is)
    (case k8 => k_is)
    (case a9 => k_is)
    (case l9 => k_is)
    (case c9 => k_is)
    (case k9 => k_is)
    (case a10 => k_is)
    (case l10 => k_is)
    (case c10 => k_is)
    (case k10 => k_is)
    (case a11 => k_is)
    (case l11 => k_is)
    (case c11 => k_is)
    (case k11 => k_is)
    (case a12 => k_is)
    (case l12 => k_is)
    (case c12 => k_is)
    (case k12 => k_is)
    (case a13 => k_is)
    (case l13 => k_is)
    (case c13 => k_is)
    (case k13 => k_is)
    (case a14 => k_is)
    (case l14 => k_is)
    (case c14 => k_is)
    (case k14 => k_is)
    (case a15 => k_is)
    (case l15 => k_is)
    (case c15 => k_is)
    (case k15 => k_is)
    (case a16 => k_is)
    (case l16 => k_is)
    (case c16 => k_is)
    (case k16 => k_is)
    (case a17 => k_is)
    (case l17 => k_is)
    (case c17 => k_is)
    (case k17 => k_is)
    (case a18 => k_is)
    (case l18 => k_is)
    (case c18 => k_is)
    (case k18 => k_is)
    (case a19 => k_is)
    (case l19 => k_is)
    (case c19 => k_is)
    (case k19 => k_is)
    (case a20 => k_is)
    (case l20 => k_is)
    (case c20 => k_is)
    (case k20 => k_is)
    (case a21 => k_is)
    (case l21 => k_is)
    (case c21 => k_is)
    (case k21 => k_is)
    (case a22 => k_is)
    (case l22 => k_is)
    (case c22 => k_is)
    (case k22 => k_is)
    (case a23 => k_is)
    (case l23 => k_is)
    (case c23 => k_is)
    (case k23 => k_is)
    (case a24 => k_is)
    (case i24 => k_is)
    (case j24 => k_is)
    (case l24 => k_is)
    (case c24 => k_is)
    (case k24 => k_is)
    (case a25 => k_is)
    (case i25 => k_is)
    (case j25 => k_is)
    (case l25 => k_is)
    (case c25 => k_is)
    (case k25 => k_is)
    (case a26 => k_is)
    (case g26 => k_is)
    (case t26 => k_is)
    (case r26 => k_is)
    (case l26 => k_is)
    (case c26 => k_is)
    (case k26 => k_is)
    (case a27 => k_is)
    (case g27 => k_is)
    (case t27 => k_is)
    (case r27 => k_is)
    (case l27 => k_is)
    (case c27 => k_is)
    (case k27 => k_is)
    (case a28 => k_is)
    (case g28 => k_is)
    (case t28 => k_is)
    (case r28 => k_is)
    (case l28 => k_is)
    (case c28 => k_is)
    (case k28 => k_is)
    (case z_int => k_is)
    (case z_len => k_is)
    (case z_abs => k_is)
    (case z_max => k_is)
    (case z_min => k_is)
    (case z_range => k_is)
    (case z_repr => k_is)
    (case z_list => k_is)
    (case z_enumerate => k_is)
    (case z_sum => k_is)
    (case z_divmod => k_is)
    (case z_sorted => k_is)
    (case z_zip => k_is)
    (case z_set => k_is)
    (case z_isinstance => k_is)
    (case z_bool => k_is)
    (case q_GREATEST_WEEK => k_is)
    (case q_GREATEST_SPEED => k_is)
    (case pgC => k_is)
    (case hdC => k_is)
    (case poC => k_is)
    (case saC => k_is)
    (case mkC => k_is)
    (case kcC => k_is)
    (case n_speeds => k_is)
    (case n_changes => k_is)

