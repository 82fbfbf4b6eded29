import PyProof.Rows.All
import Wide.All
import OpenK.AllK
import Wide.FinOn
import HandS.ForMost
import HandS.Codes
import HandS.Walk
import HandS.DictComp
import HandS.ListItems
import HandS.Property
import HandS.Wide
import HandS.Style
import HandS.More
import HandS.Defaults
import HandS.MakeKwOnly
import HandS.IsInst
import HandS.OwnEq
import HandS.DeepEq
import HandS.RaiseMore
import HandS.ExcInit
import HandS.ExcIs
import HandS.WordsExc
import HandS.ExcOwn
import HandS.DictEq
import HandS.SetBool
import HandS.Strs
import HandS.TryOnly
import HandS.Zip
import KE.DatumOrd
import KE.KDictZip
import HandS.SetFor
import HandS.Star
import PySem.Challenge.RW_dueclocks_k05_calendars_joined
set_option Elab.async false
set_option linter.all false
set_option maxRecDepth 100000
set_option maxHeartbeats 4000000
namespace DK
open PySem PySem.Spec PyProof.Rows L2

/-- a def that is only run where no repr is under way -/
structure FnG (P : Program) (w : World) (K : PySem.W.Frag) (mg : Str → Option Value) (b0 : Heap) (k : Nat) (f : Addr)
    (fd : FuncData) (ps : List Str) (sp : Sp) : Prop where
  size : ∀ vs H Q E, sp vs H Q E → vs.length = ps.length
  go : ∀ (B : Around) (stk : List Env) (s : Shared) (H : Hp) (ar : Args) (us : List Value) (vs : List V) (Q : VK) (E : XK),
    B.guards = some [] → Room k B → Env0 P w K mg b0 B stk s H → BindsTo s fd ar (ps.zip us) → Vals vs us → sp vs H Q E →
      codeAny (model P w) B (.call (.ref f) ar) (CR CX0 stk P w H s Q E) s

section
variable {P : Program} {w : World} {K : PySem.W.Frag} {mg : Str → Option Value} {b0 : Heap}

theorem okG {x qual : Str} {st : Stmt} {f : Addr} {fd : FuncData} {N ps : List Str} {k : Nat} {sp : Sp}
    (F : Fun K x qual st f fd) (S : FnScope N ps (defScope st)) (size : ∀ vs H Q E, sp vs H Q E → vs.length = ps.length)
    (body : ∀ (cdv : Value) (B : Around) (stk : List Env) (s : Shared) (H : Hp) (vs : List V) (Q : VK) (E : XK),
      B.guards = some [] → Room k (B.deeper (envOfC qual (defScope st) s.heap.objs.size f cdv)) → sp vs H Q E →
      ∃ t, PSs (cxOf CX0 P w K mg b0 N qual (defScope st) f cdv B stk s H E).nox (defBody st) t ∧
        t { nx := fun _ J => Q .non J, rt := Q } (start N vs) H) : FnG P w K mg b0 (k + 1) f fd ps sp := by
  obtain ⟨oc, od, kV, dc, pm, an, cv, ct, osl, rfl, hf, hcode⟩ := F.ex
  refine ⟨size, fun B stk s H ar us vs Q E hgd hr env hbi hv hs => ?_⟩
  have hlen := size _ _ _ _ hs
  have inK : K.In s.heap := env.mod.kin.keeps fun c u g => (env.bs c u g).1
  have noL : s.heap.NoLimit := env.mod.nolimit.keeps fun c u g => (env.bs c u g).1
  have kinds : ∀ z ∈ ps.zip us, (defScope st).names.lookup z.1 = some .local ∨
      ((defScope st).names.lookup z.1 = some .cell ∧
        ((cellsFrom (s.heap.objs.size + 1) (defScope st).names []).lookup z.1).isSome = true) := by
    rintro ⟨n, v⟩ hz
    rcases S.par n (List.of_mem_zip hz).1 with g | g
    · exact Or.inl g
    · exact Or.inr ⟨g, PySem.W.cellsFrom_some _ _ _ (Or.inl g)⟩
  refine codeAny_call_function hr.depth (inK _ _ hf) rfl S.co S.gen rfl (PySem.W.codeRec_of inK hcode) (hbi _ _ _ _ ?_)
  refine wpAny_newFunctionEnv_cells S.kind kinds fun en hen s2 inc => ?_
  subst hen
  refine ⟨noL.keeps inc.toInCall.keep, codeAny_func ?_⟩
  obtain ⟨t, ht0, hq⟩ := body cv B stk s H vs Q E hgd (hr.deeper _) hs
  have ht := ht0.nox
  have I : Inv (cxOf CX0 P w K mg b0 N qual (defScope st) f cv B stk s H E) [] (start N vs) H s2 := inv_start S hr.hd env hlen hv inc
  refine wpAny_mono (ht.run [] s2 (start N vs) H _ I hq) (fun fl s3 h3 => ?_) fun e s3 h3 => h3
  have close : ∀ {τ : L2.St} {J : Hp} {v : V} {u : Value}, Inv (cxOf CX0 P w K mg b0 N qual (defScope st) f cv B stk s H E) [] τ J s3 →
      RelV v u → Q v J → CE stk P w H s Q u s3 := fun {τ J v u} I3 rv q => ⟨v, J, I3.os, I3.bare, I3.base, I3.hok, rv, q⟩
  cases fl with
  | next =>
    obtain ⟨τ, J, I3, q⟩ := h3
    exact close (v := V.non) (u := Value.none) I3 rfl q
  | ret u =>
    obtain ⟨v, τ, J, I3, rv, q⟩ := h3
    exact close I3 rv q
  | cont =>
    obtain ⟨_, _, _, q⟩ := h3
    exact q.elim
  | brk =>
    obtain ⟨_, _, _, q⟩ := h3
    exact q.elim
end

section
variable {X : Cx}
/-- f(e, ..) of such a def -/
theorem pe_callG {k : Nat} {f : Addr} {fd : FuncData} {ps : List Str} {sp : Sp} {x : Str} {p pos : Pos} {e : Expr} {es : List Expr} {t : TA}
    (F : FnG X.prog X.w X.K X.mg X.base k f fd ps sp) (hgd : X.A.guards = some []) (hr : Room k X.A) (hg : Gl X x)
    (hm : X.mg x = some (.ref f)) (hk : PySem.W.keepIn X.K (.ref f) = true) (hb : Binds X.K fd ps []) (ha : PA X (e :: es) t)
    (hdb : (x == ("__debug__" : Str)) = false := by decide)
    (he : starEach (e :: es) X.env = (false, eval e X.env) :: starEach es X.env := by rfl)
    (hpl : (backTo pos (starEach es X.env)).any (·.1) = false := by rfl) :
    PE X (.Call (.Name x p) (e :: es) [] pos) (tCall sp [] E0 t) := by
  refine ⟨fun pins s σ H Q I h => ?_⟩
  refine wpAny_Call_Name_kw (ld_glob I hg hm ?_ hdb)
  refine PySem.W.callWith_K (h₀ := X.base) I.ok.mod.kin hk (thn (ha.run pos pins s σ H _ I h) fun us s1 hh => ?_) he hpl
  obtain ⟨vs, J, I1, r, q⟩ := hh
  refine ⟨I1.kIn, ?_⟩
  rw [List.append_nil] at q
  have hl : us.length = ps.length := r.length.symm.trans (F.size _ _ _ _ q)
  have bi := hb s1 us I1.kIn (by rw [List.append_nil]; exact hl)
  rw [List.append_nil] at bi
  refine wpAny_call (codeAny_mono (F.go X.A X.stack s1 J ⟨us, []⟩ us vs Q E0 hgd hr I1.env0 bi r q) fun res s2 hq => ?_)
  cases res with
  | error er => exact False.elim hq
  | ok fl =>
    cases fl with
    | ret u => exact I1.after hq
    | next => exact False.elim hq
    | brk => exact False.elim hq
    | cont => exact False.elim hq

/-- repr(x), x a list or a tuple of data -/
def rRepr (K : PySem.W.Frag) : List V → Hp → VK → Prop := fun xs H Q => ∃ (a : Addr) (d : PyData), xs = [.ref a] ∧ Dp K H (.ref a) d ∧
  d.showable = true ∧ d.hasDict = false ∧ d.depth ≤ 60 ∧ d.shown.length ≤ sizeLine ∧ Q (.str d.shown) H
theorem call_repr (hgd : X.A.guards = some []) (hu : X.A.units + 64 < cLine) : CallR X (.builtin "repr") (rRepr X.K) := by
  intro pins s σ H xs us Q I r h
  obtain ⟨a, d, rfl, hd, hs, hn, hdp, hz, q⟩ := h
  cases r with
  | cons r1 r2 =>
    cases r2
    rename_i u
    obtain rfl : u = Value.ref a := r1
    obtain ⟨as, rd⟩ := Dp.reads I d _ _ hd (show RelV (V.ref a) (Value.ref a) from rfl)
    refine repr_of_reads' rd hs (PyData.noDict_hsm hn) hgd (by omega) (fun _ _ e => e) (fun h' u tk hk => ?_) hz
    exact ⟨.str d.shown, H, I.kept hk, ⟨u, rfl⟩, q⟩
end

/-- what is hidden of the heap behind the top: the script alone, where it is not the module's own -/
structure Veil (P : Program) (w : World) (K : PySem.W.Frag) (h : Heap) (a : Addr) (ns : List Int) (H : Hp) : Prop where
  only : Only H
  at_ : SqL K H a (ns.map V.int)
  ok : HOk P w H h
  one : ∀ c, H c ≠ none → c = a
  out : H a ≠ none → K.lookup a = none

theorem veil_of {P : Program} {w : World} {K : PySem.W.Frag} {h : Heap} {a : Addr} {us : List Value} {ns : List Int} (inK : K.In h)
    (ha : h.get? a = some { cls := .type "list", data := .seq us.toArray }) (hi : IntsAre us ns) (hz : ns.length ≤ sizeLine) :
    ∃ H, Veil P w K h a ns H := by
  have rv := vals_ints hi
  cases hk : K.lookup a with
  | some o =>
    have e := (inK a o hk).symm.trans ha
    cases e
    refine ⟨fun _ => none, fun _ => Or.inl rfl, Or.inr ⟨_, us.toArray, _, hk, rfl, rfl, rfl, ?_, ?_⟩, fun c u z => ?_, fun c z => absurd rfl z, fun z => absurd rfl z⟩
    · rw [List.size_toArray, hi.length]
      exact hz
    · simpa using rv
    · exact nomatch (show (none : Option HO) = some u from z)
  | none =>
    let O : Obj := { cls := .type "list", data := .seq us.toArray }
    let H : Hp := fun c => if c = a then some (.frz O (.lst (ns.map V.int))) else none
    have hA : H a = some (.frz O (.lst (ns.map V.int))) := if_pos rfl
    have hN : ∀ c, c ≠ a → H c = none := fun c g => if_neg g
    refine ⟨H, fun c => ?_, Or.inl (Or.inr ⟨O, hA⟩), fun c u z => ?_, fun c z => ?_, fun _ => hk⟩
    · by_cases g : c = a
      · subst g
        exact Or.inr ⟨_, _, hA⟩
      · exact Or.inl (hN c g)
    · by_cases g : c = a
      · subst g
        have z2 := hA.symm.trans z
        cases z2
        refine ⟨ha, ?_, us, _, rv, ha⟩
        rw [List.length_map]
        exact hz
      · exact nomatch (hN c g).symm.trans z
    · by_cases g : c = a
      · exact g
      · exact absurd (hN c g) z

theorem lawG {P : Program} {w : World} {K : PySem.W.Frag} {mg mb : Str → Option Value} {k : Nat} {fa a : Addr} {fd : FuncData} {x : Str} {sp : Sp} {s : Shared} {us : List Value} {ns : List Int}
    (inK : K.In s.heap) (hmg : s.heap.Ns mainGlobals mg) (hmb : s.heap.Ns builtinsNs mb) (hbo : ∀ y : Str, y ≠ "__name__" → mb y = bootBuiltins y)
    (noL : s.heap.NoLimit) (gen : s.gens = #[]) (ha : s.heap.get? a = some { cls := .type "list", data := .seq us.toArray })
    (hi : IntsAre us ns) (hz : ns.length ≤ sizeLine) (hr : Room k callerA)
    (F : ∀ b0 : Heap, K.In b0 → b0.Ns mainGlobals mg → FnG P w K mg b0 k fa fd [x] sp)
    (bind : ∀ (t : Shared) (u : Value), BindsTo t fd ⟨[u], []⟩ [(x, u)])
    (hsp : ∀ H : Hp, Only H → SqL K H a (ns.map V.int) → sp [.ref a] H (fun v _ => v = .bl true) E0) :
    codeAny (model P w) callerA (.call (.ref fa) ⟨[.ref a], []⟩)
      (fun r t => r = .ok (.ret (.bool true)) ∧ OldK s.heap t.heap ∧ t.os = s.os ∧ AllBare t.gens) s := by
  obtain ⟨H, W⟩ := veil_of (P := P) (w := w) inK ha hi hz
  have through : ∀ {c : Addr} {o : Obj}, s.heap.get? c = some o → H c = none → (hidT s.heap H).get? c = some o := fun g n => hidT_get g n
  have dicts : ∀ {c : Addr} {o : Obj} {es : Array DictEntry} {ep : Nat}, s.heap.get? c = some o → o.data = .dict es ep → H c = none := by
    intro c o es ep g d
    by_cases n : H c = none
    · exact n
    · have := W.one c n
      subst this
      rw [ha] at g
      cases g
      exact nomatch d
  have names : ∀ {c : Addr} {m : Str → Option Value}, s.heap.Ns c m → (hidT s.heap H).Ns c m := fun {c m} ⟨o, es, ep, g, d, r⟩ => ⟨o, es, ep, through g (dicts g d), d, r⟩
  have inB : K.In (hidT s.heap H) := by
    intro c o g
    refine through (inK c o g) ?_
    by_cases n : H c = none
    · exact n
    · have e := W.one c n
      subst e
      rw [W.out n] at g
      exact nomatch g
  have md : Mod K mg (hidT s.heap H) := ⟨inB, names hmg, ⟨mb, names hmb, hbo⟩, noL.elim fun mc q => ⟨mc, names q.1, q.2⟩⟩
  have nil : ∀ c : Addr, c ∉ ([] : List Addr) := fun c q => nomatch q
  have env : Env0 P w K mg (hidT s.heap H) callerA [] s H :=
    ⟨rfl, md, fun c o g => of_hidT g, Nat.le_of_eq (hidT_size _ _), trivial, fun c q => absurd q (nil c), W.ok, .of_eq gen⟩
  refine codeAny_mono ((F _ inB (names hmg)).go callerA [] s H ⟨[.ref a], []⟩ [.ref a] [.ref a] _ _ rfl hr env (bind s (.ref a)) (.cons rfl .nil) (hsp H W.only W.at_)) fun r t q => ?_
  rcases r with er | fl
  · exact False.elim q
  · rcases fl with _ | _ | _ | u
    iterate 3 exact False.elim q
    · obtain ⟨v, H', os, bare, un, ok2, rv, rfl⟩ := q
      obtain rfl : u = Value.bool true := rv
      refine ⟨rfl, OldK.of_keep fun c o g => ?_, os, bare⟩
      by_cases n : H c = none
      · exact un.keep c o g n (fun z => absurd z (nil c)) (nil c)
      · rcases W.only c with z | ⟨O, xs, z⟩
        · exact absurd z n
        · have e1 := (W.ok c _ z).1
          have e2 := (ok2 c _ (un.frzs c O _ z)).1
          rw [g] at e1
          cases e1
          exact e2
/-- the end of a law row -/
theorem walkG {l : PySem.W.OpenLaw} {n k : Nat} {q : Program} {loose : List Str} {XP : (Str → Option Value) → Heap → Prop} {YP : World → Heap → Prop} {d : DefRec} {K : Params → PySem.W.Frag} {sp : PySem.W.Frag → Sp} {x : Str}
    (hn : l.most = some n) (hn2 : n ≤ sizeLine) (hdf : d.params.defaults = []) (hr : Room k callerA)
    (hY : ∀ (w : World) (h : Heap), YP w h → (K w.params).In h)
    (F : ∀ (w : World) (mg : Str → Option Value) (fa : Addr) (h : Heap), (K w.params).In h → h.Ns mainGlobals mg → mg d.name = some (.ref fa) →
      ∃ fd : FuncData, (∀ (t : Shared) (u : Value), BindsTo t fd ⟨[u], []⟩ [(x, u)]) ∧
        ∀ b0 : Heap, (K w.params).In b0 → b0.Ns mainGlobals mg → FnG l.prog w (K w.params) mg b0 k fa fd [x] (sp (K w.params)))
    (hsp : ∀ (J : PySem.W.Frag) (H : Hp) (a : Addr) (ns : List Int), ns.length ≤ n → Only H → SqL J H a (ns.map V.int) → sp J [.ref a] H (fun v _ => v = .bl true) E0) :
    PySem.W.WalkO q loose XP YP l.row.toRowW d [] (fun f vs => PySem.call f vs) := by
  refine Att.attach_call hn hdf fun w s₀ s₁ mg mb fa o pm cd doc a vs ns G Y ho hd hcd hmg hobj hints hlen hg => ?_
  have inK := hY w _ Y
  obtain ⟨fd, bi, hF⟩ := F w mg fa _ inK G.T.g hmg
  exact lawG inK G.T.g G.T.b G.T.builtins G.T.nolimit hg hobj hints (Nat.le_trans hlen hn2) hr hF bi fun H hO hS => hsp _ H a ns hlen hO hS
def top (i : Nat) : Stmt := PySem.Challenge.pw_dueclocks_k05_calendars_joined.main.body.getD i (.Pass ⟨0, 0, 0, 0⟩)
abbrev sWell : Stmt := top 23
abbrev sTake : Stmt := top 24
abbrev sNumber : Stmt := top 25
abbrev sPaces : Stmt := top 26
abbrev sMarks : Stmt := top 27
abbrev sTold : Stmt := top 29
abbrev sFits : Stmt := top 32
abbrev sLaw : Stmt := top 33
abbrev sIsSpeed : Stmt := top 17
abbrev sChkSpeeds : Stmt := top 18
abbrev sChkChanges : Stmt := top 19
abbrev sInit : Stmt := inClass (top 21) 0
abbrev sWeek : Stmt := inClass (top 21) 1
abbrev sSpeeds : Stmt := inClass (top 21) 2
abbrev sChanges : Stmt := inClass (top 21) 3
abbrev sGet : Stmt := inClass (top 21) 4
abbrev sHas : Stmt := inClass (top 21) 6
abbrev sEq : Stmt := inClass (top 21) 10
abbrev sErr : Stmt := inClass (top 2) 0
abbrev sPace : Stmt := top 28
abbrev sWeeks : Stmt := top 11
abbrev sMoved : Stmt := inClass (top 21) 9
abbrev sOr : Stmt := inClass (top 21) 7
abbrev sAnd : Stmt := inClass (top 21) 8
abbrev sPairs : Stmt := top 20
abbrev sChanged : Stmt := top 14
abbrev sDueL : Stmt := top 31
abbrev sJoined : Stmt := top 30
abbrev sChkWeek : Stmt := top 10
abbrev sBehind : Stmt := top 12
/-! ### the well -/
def Fr (p : Addr) (H H' : Hp) : Prop := ∀ b o, H b = some o → b ≠ p → H' b = some o
theorem Fr.refl (p : Addr) (H : Hp) : Fr p H H := fun _ _ h _ => h
theorem Fr.trans {p : Addr} {H H1 H2 : Hp} (a : Fr p H H1) (b : Fr p H1 H2) : Fr p H H2 := fun c o h g => b c o (a c o h g) g
theorem Fr.of {p : Addr} {H H' : Hp} (a : Same H H') : Fr p H H' := fun c o h _ => a c o h
theorem Fr.at_ {p : Addr} {o : HO} {H : Hp} : Fr p H (upd H p o) := fun b u h g => by
  rw [upd_ne g]
  exact h
theorem Fr.new {p q : Addr} {o : HO} {H : Hp} (h : H q = none) : Fr p H (upd H q o) := fun b u e _ => by
  rw [upd_ne (ne_of_none e h)]
  exact e
theorem Fr.seq {K : PySem.W.Frag} {p a : Addr} {H H' : Hp} {xs : List V} (f : Fr p H H') (g : a ≠ p) (h : SqL K H a xs) : SqL K H' a xs := by
  rcases h with (h | ⟨o, h⟩) | h
  · exact .inl (.inl (f _ _ h g))
  · exact .inl (.inr ⟨o, f _ _ h g⟩)
  · exact .inr h
theorem same_new {H : Hp} {q : Addr} {o : HO} (h : H q = none) : Same H (upd H q o) := fun b u e => by
  rw [upd_ne (ne_of_none e h)]
  exact e
/-- a well at p, from which n or fewer draws were mixed -/
def Well (H : Hp) (p : Addr) (n : Nat) : Prop := ∃ a b c : Int, H p = some (.lst [.int a, .int b, .int c]) ∧ 0 ≤ b ∧ b < 2 ^ 62 ∧ 0 ≤ c ∧ c ≤ n
theorem Well.mono {H : Hp} {p : Addr} {n m : Nat} (h : Well H p n) (g : n ≤ m) : Well H p m := by
  obtain ⟨a, b, c, h1, h2, h3, h4, h5⟩ := h
  exact ⟨a, b, c, h1, h2, h3, h4, by omega⟩
theorem Well.same {H H' : Hp} {p : Addr} {n : Nat} (h : Well H p n) (g : Same H H') : Well H' p n := by
  obtain ⟨a, b, c, h1, h2⟩ := h
  exact ⟨a, b, c, g _ _ h1, h2⟩
theorem Well.new {H : Hp} {p q : Addr} {n : Nat} {o : HO} (h : Well H p n) (g : H q = none) : Well (upd H q o) p n := h.same (same_new g)
theorem Well.upd_ne {H : Hp} {p q : Addr} {n : Nat} {o : HO} (h : Well H p n) (g : p ≠ q) : Well (upd H q o) p n := by
  obtain ⟨a, b, c, h1, h2⟩ := h
  exact ⟨a, b, c, by rw [L2.upd_ne g]; exact h1, h2⟩
theorem Well.ne {H : Hp} {p q : Addr} {n : Nat} (h : Well H p n) (g : H q = none) : p ≠ q := by
  obtain ⟨a, b, c, h1, h2⟩ := h
  exact ne_of_none h1 g
def spTake : Sp := fun vs H Q _ => ∃ (p : Addr) (n : Nat) (m : Int), vs = [.ref p, .int m] ∧ Well H p n ∧ n ≤ 10 ^ 9 ∧ 0 < m ∧ m < 2 ^ 200 ∧
  ∀ (r : Int) (H' : Hp), 0 ≤ r → r < m → Fr p H H' → Well H' p (n + 1) → Q (.int r) H'
theorem spTake_ok {p : Addr} {n : Nat} {m : Int} {H : Hp} {Q : VK} {E : XK} (h : Well H p n) (hn : n ≤ 10 ^ 9) (h0 : 0 < m) (h1 : m < 2 ^ 200)
    (q : ∀ (r : Int) (H' : Hp), 0 ≤ r → r < m → Fr p H H' → Well H' p (n + 1) → Q (.int r) H') : spTake [.ref p, .int m] H Q E := ⟨p, n, m, rfl, h, hn, h0, h1, q⟩
/-- the built-in names are still the built-in ones -/
structure Blt (mg : Str → Option Value) : Prop where
  int : mg "int" = none
  len : mg "len" = none
  abs : mg "abs" = none
  max : mg "max" = none
  min : mg "min" = none
  range : mg "range" = none
  repr : mg "repr" = none
  list : mg "list" = none
theorem set0 (a b c v : V) : ([a, b, c] : List V).set 0 v = [v, b, c] := rfl
theorem set2 (a b c v : V) : ([a, b, c] : List V).set 2 v = [a, b, v] := rfl
section
variable {P : Program} {w : World} {K : PySem.W.Frag} {mg : Str → Option Value} {base : Heap}
theorem scTake : FnScope ["well", "many", "taken", "mixed"] ["well", "many"] (defScope sTake) := ⟨rfl, rfl, rfl, by decide +kernel, rfl, by decide +kernel, by decide +kernel⟩
theorem ok_take {f : Addr} {fd : FuncData} (F : Fun K "_law_take" "_law_take" sTake f fd) (T : Blt mg) : FnOk P w K mg base CX0 1 f fd ["well", "many"] spTake := by
  refine F.ok scTake (fun vs H Q E h => ?_) (fun cdv A outer s H vs Q E hr h => ?_)
  · obtain ⟨p, n, m, rfl, _⟩ := h
    rfl
  · obtain ⟨p, n, m, rfl, ⟨a, b, c, hp, b0, b1, c0, c1⟩, hn, m0, m1, k⟩ := h
    refine ⟨_, pss_cons (ps_if (pt_cmpR op_gt (pe_ix ix_list (pv 0) pe_int (fun _ _ => rfl)) pe_int (nomark _))
      (pss_cons (ps_set (i := 2) scTake.nd rfl (.inl rfl) (pe_op op_mod (pe_callTy call_int1 (by rfl) T.int (by decide +kernel) (pa_cons (pe_ix ix_list (pv 0) pe_int (fun _ _ => rfl)) pa_nil)) (pv 1)))
      (pss_cons (ps_asg (pe_op op_fdivW (pe_ix ix_list (pv 0) pe_int (fun _ _ => rfl)) (pv 1)) (pg_sub (pv 0) pe_int set_list))
      (pss_one (ps_ret (pv 2))))) pss_nil)
      (pss_cons (ps_asg (pe_op op_add (pe_ix ix_list (pv 0) pe_int (fun _ _ => rfl)) pe_int) (pg_sub (pv 0) pe_int set_list))
      (pss_cons (ps_set (i := 3) scTake.nd rfl (.inl rfl) (pe_op op_add (pe_op op_pow (pe_op op_add (pe_ix ix_list (pv 0) pe_int (fun _ _ => rfl)) (pe_op op_mul pe_int (pe_ix ix_list (pv 0) pe_int (fun _ _ => rfl)))) pe_int) (pe_op op_mul pe_int (pe_ix ix_list (pv 0) pe_int (fun _ _ => rfl)))))
      (pss_cons (ps_set (i := 3) scTake.nd rfl (.inl rfl) (pe_op op_add (pe_op op_mod (pe_callTy call_int1 (by rfl) T.int (by decide +kernel) (pa_cons (pv 3) pa_nil)) pe_int) (pe_op op_mul pe_int (pe_ix ix_list (pv 0) pe_int (fun _ _ => rfl)))))
      (pss_cons (ps_set (i := 3) scTake.nd rfl (.inl rfl) (pe_op op_mod (pe_callTy call_int1 (by rfl) T.int (by decide +kernel) (pa_cons (pe_op op_pow (pv 3) pe_int) pa_nil)) pe_int))
      (pss_one (ps_ret (pe_op op_mod (pe_callTy call_int1 (by rfl) T.int (by decide +kernel) (pa_cons (pe_op op_fdiv (pv 3) pe_int) pa_nil)) (pv 1)))))))), ?_⟩
    refine ⟨_, rfl, p, _, 0, _, rfl, rfl, SqL.of hp, atI_nat (j := 0) rfl, _, _, rfl, rfl, _, rfl, ite2 (fun hw => ?_) (fun hw => ?_)⟩
    · refine ⟨_, rfl, p, _, 0, _, rfl, rfl, SqL.of hp, atI_nat (j := 0) rfl, .inl ⟨_, rfl, _, rfl, a, m, rfl, rfl, m0, ?_⟩⟩
      refine ⟨_, rfl, p, _, 0, _, rfl, rfl, SqL.of hp, atI_nat (j := 0) rfl, _, rfl, a, m, rfl, rfl, wide_div (b := 200) m0 (by omega) (by decide) (by decide), ?_⟩
      refine ⟨_, rfl, p, _, 0, 0, rfl, rfl, hp, rfl, ?_⟩
      refine ⟨_, rfl, k _ _ (Int.emod_nonneg _ (by omega)) (Int.emod_lt_of_pos _ m0) Fr.at_ ⟨a / m, b, c, upd_same, b0, b1, c0, by omega⟩⟩
    · refine ⟨_, rfl, p, _, 2, _, rfl, rfl, SqL.of hp, atI_nat (j := 2) rfl, _, _, rfl, rfl, ?_⟩
      refine ⟨_, rfl, p, _, 2, 2, rfl, rfl, hp, rfl, ?_⟩
      rw [set2]
      generalize hH : upd H p (.lst [.int a, .int b, .int (c + 1)]) = H1
      have h1 : H1 p = some (.lst [.int a, .int b, .int (c + 1)]) := by rw [← hH]; exact upd_same
      have e1 : (0 : Int) ≤ 6700417 * (c + 1) := by omega
      refine ⟨_, rfl, p, _, 1, _, rfl, rfl, SqL.of h1, atI_nat (j := 1) rfl, _, rfl, p, _, 2, _, rfl, rfl, SqL.of h1, atI_nat (j := 2) rfl, _, _, rfl, rfl, .inl ⟨by decide, by decide⟩, _, _, rfl, rfl, _, _, rfl, rfl, ⟨by decide, by decide, by omega⟩,
        _, rfl, p, _, 2, _, rfl, rfl, SqL.of h1, atI_nat (j := 2) rfl, _, _, rfl, rfl, .inl ⟨by decide, by decide⟩, _, _, rfl, rfl, ?_⟩
      refine ⟨_, rfl, .inl ⟨_, rfl, _, _, rfl, rfl, (by show (0 : Int) < 2305843009213693951; decide), _, rfl, p, _, 2, _, rfl, rfl, SqL.of h1, atI_nat (j := 2) rfl, _, _, rfl, rfl, .inl ⟨by decide, by decide⟩, _, _, rfl, rfl, ?_⟩⟩
      generalize hx : ((b + 6700417 * (c + 1)) ^ (3 : Int).toNat + 97 * (c + 1)) % 2305843009213693951 = x
      have x0 : 0 ≤ x := by rw [← hx]; exact Int.emod_nonneg _ (by decide)
      have x1 : x < 2305843009213693951 := by rw [← hx]; exact Int.emod_lt_of_pos _ (by decide)
      refine ⟨_, rfl, _, _, rfl, rfl, ⟨by decide, by decide, by omega⟩, .inl ⟨_, rfl, _, _, rfl, rfl, (by show (0 : Int) < 618970019642690137449562111; decide), ?_⟩⟩
      refine ⟨_, rfl, _, _, rfl, rfl, ⟨by decide, by decide⟩, .inl ⟨_, rfl, _, rfl, _, _, rfl, rfl, m0, ?_⟩⟩
      refine k _ _ (Int.emod_nonneg _ (by omega)) (Int.emod_lt_of_pos _ m0) ?_ ⟨a, b, c + 1, h1, b0, b1, by omega, by omega⟩
      rw [← hH]
      exact Fr.at_
end

/-! ### the draws of a law -/
theorem atI_ints {xs : List Int} {i : Int} (h0 : 0 ≤ i) (h1 : i < xs.length) : ∃ v, v ∈ xs ∧ xs[i.toNat]? = some v ∧ atI (xs.map V.int) i = some (.int v) := by
  obtain ⟨j, rfl⟩ : ∃ j : Nat, i = (j : Int) := ⟨i.toNat, by omega⟩
  have hj : j < xs.length := by omega
  refine ⟨xs[j], List.getElem_mem hj, by simp [hj], atI_nat (j := j) ?_⟩
  rw [List.getElem?_map, List.getElem?_eq_getElem hj]
  rfl
def spWell (K : PySem.W.Frag) : Sp := fun vs H Q _ => ∃ (a : Addr) (ns : List Int) (i : Int), vs = [.ref a, .int i] ∧ SqL K H a (ns.map V.int) ∧ ns.length ≤ 63 ∧ 0 ≤ i ∧ i ≤ 63 ∧
  ∀ (p : Addr) (H' : Hp), H p = none → Same H H' → Well H' p 0 → Q (.ref p) H'
def spNumber : Sp := fun vs H Q _ => ∃ (p : Addr) (n : Nat), vs = [.ref p] ∧ Well H p n ∧ n ≤ 10 ^ 8 ∧
  ∀ (r : Int) (H' : Hp), -10 ^ 30 < r → r < 10 ^ 30 → Fr p H H' → Well H' p (n + 4) → Q (.int r) H'
/-- a list of speeds that a calendar may have -/
structure Paces (xs : List Int) : Prop where
  lo : ∀ v ∈ xs, 0 ≤ v ∧ v ≤ 3
  pos : ∃ v ∈ xs, v ≠ 0
  len0 : 0 < xs.length
  len1 : xs.length ≤ 12
def spPaces : Sp := fun vs H Q _ => ∃ (p : Addr) (n : Nat) (z : Int), vs = [.ref p, .int z] ∧ Well H p n ∧ n ≤ 10 ^ 8 ∧ 1 ≤ z ∧ z ≤ 12 ∧
  ∀ (q : Addr) (xs : List Int) (H' : Hp), Paces xs → (xs.length : Int) = z → H q = none → q ≠ p → H' q = some (.lst (xs.map V.int)) → Fr p H H' → Well H' p (n + 20) → Q (.ref q) H'
section
variable {P : Program} {w : World} {K : PySem.W.Frag} {mg : Str → Option Value} {base : Heap}
theorem scWell : FnScope ["script", "place", "cell", "seed"] ["script", "place"] (defScope sWell) := ⟨rfl, rfl, rfl, by decide +kernel, rfl, by decide +kernel, by decide +kernel⟩
theorem ok_well {f : Addr} {fd : FuncData} (F : Fun K "_law_well" "_law_well" sWell f fd) (T : Blt mg) : FnOk P w K mg base CX0 1 f fd ["script", "place"] (spWell K) := by
  refine F.ok scWell (fun vs H Q E h => ?_) (fun cdv A outer s H vs Q E hr h => ?_)
  · obtain ⟨a, ns, i, rfl, _⟩ := h
    rfl
  · obtain ⟨a, ns, i, rfl, hS, hl, i0, i1, k⟩ := h
    refine ⟨_, pss_cons (ps_set (i := 2) scWell.nd rfl (.inl rfl) pe_int)
      (C8.pss_cut (ps_if (pt_cmpR op_lt (pv 1) (pe_callB call_len_seq (by rfl) T.len PySem.boot_len (pa_cons (pv 0) pa_nil)) (nomark _))
        (pss_one (ps_set (i := 2) scWell.nd rfl (.inl rfl) (pe_ix ix_list (pv 0) (pv 1) (fun _ _ => rfl)))) pss_nil)
      (pss_cons (ps_set (i := 3) scWell.nd rfl (.inl rfl) (pe_op op_mod (pe_callTy call_int1 (by rfl) T.int (by decide +kernel) (pa_cons (pe_op op_add (pe_op op_mul (pe_callB call_abs (by rfl) T.abs (by decide +kernel) (pa_cons (pv 2) pa_nil)) pe_int) (pe_callTy call_int1 (by rfl) T.int (by decide +kernel) (pa_cons (pe_cmpR op_lt (pv 2) pe_int (nomark _)) pa_nil))) pa_nil)) pe_int))
      (pss_one (ps_ret (pe_lst (pa_cons (pe_op op_mul (pv 2) (pe_callTy call_int1 (by rfl) T.int (by decide +kernel) (pa_cons (pe_cmpR op_ge (pv 2) (pe_op op_pow pe_int pe_int) (nomark _)) pa_nil))) (pa_cons (pe_op op_add (pv 3) (pe_op op_mul pe_int (pv 1))) (pa_cons pe_int pa_nil)))))))), ?_⟩
    refine ⟨fun σ H1 => H1 = H ∧ ∃ z : Int, σ = [some (.ref a), some (.int i), some (.int z), none], ?_, ?_⟩
    · refine ⟨_, rfl, _, rfl, a, _, rfl, .inl hS, _, _, rfl, rfl, _, rfl, ite2 (fun hc => ?_) (fun hc => ?_)⟩
      · have hi : i < ns.length := by
          have := of_decide_eq_true hc
          rw [List.length_map] at this
          exact this
        obtain ⟨v, hv, hv2, e⟩ := atI_ints i0 hi
        exact ⟨_, rfl, _, rfl, a, _, i, _, rfl, rfl, hS, e, rfl, v, rfl⟩
      · exact ⟨rfl, 0, rfl⟩
    · rintro σ H1 ⟨rfl, z, rfl⟩
      refine ⟨_, rfl, _, rfl, _, _, rfl, rfl, .inr ⟨by decide, by decide⟩, _, rfl, _, _, rfl, rfl, .inr ⟨_, rfl, _, _, rfl, rfl, .inl ⟨_, rfl, _, _, rfl, rfl, (by show (0 : Int) < 2305843009213693951; decide), ?_⟩⟩⟩
      generalize hx : ((if z < 0 then -z else z) * 2 + (if decide (z < 0) = true then (1 : Int) else 0)) % 2305843009213693951 = x
      have x0 : 0 ≤ x := by rw [← hx]; exact Int.emod_nonneg _ (by decide)
      have x1 : x < 2305843009213693951 := by rw [← hx]; exact Int.emod_lt_of_pos _ (by decide)
      refine ⟨_, rfl, _, rfl, _, _, rfl, rfl, ⟨by decide, by decide, by decide⟩, _, _, rfl, rfl, .inr ⟨_, rfl, _, _, rfl, rfl, .inr ?_, ?_⟩⟩
      · split <;> exact ⟨by decide, by decide⟩
      refine ⟨_, rfl, _, rfl, _, _, rfl, rfl, .inl ⟨by decide, by decide⟩, _, _, rfl, rfl, (by show 3 ≤ sizeLine; decide), fun p hp => ?_⟩
      exact k p _ hp (same_new hp) ⟨_, _, _, upd_same, by omega, by omega, by decide, by decide⟩
theorem scNumber : FnScope ["well", "way", "found"] ["well"] (defScope sNumber) := ⟨rfl, rfl, rfl, by decide +kernel, rfl, by decide +kernel, by decide +kernel⟩
/-- what a law calls to draw -/
structure Tk (P : Program) (w : World) (K : PySem.W.Frag) (mg : Str → Option Value) (base : Heap) (fT : Addr) (fdT : FuncData) : Prop where
  ok : FnOk P w K mg base CX0 1 fT fdT ["well", "many"] spTake
  at_ : mg "_law_take" = some (.ref fT)
  kp : PySem.W.keepIn K (.ref fT) = true
  bi : Binds K fdT ["well", "many"] []
theorem ok_number {f fT : Addr} {fd fdT : FuncData} (F : Fun K "_law_number" "_law_number" sNumber f fd) (T : Blt mg) (L : Tk P w K mg base fT fdT) : FnOk P w K mg base CX0 2 f fd ["well"] spNumber := by
  refine F.ok scNumber (fun vs H Q E h => ?_) (fun cdv A outer s H vs Q E hr h => ?_)
  · obtain ⟨p, n, rfl, _⟩ := h
    rfl
  · obtain ⟨p, n, rfl, hW, hn, k⟩ := h
    refine ⟨_, pss_cons (ps_set (i := 1) scNumber.nd rfl (.inl rfl) (pe_call L.ok hr (by rfl) L.at_ L.kp L.bi .nil pass0 (pa_cons (pv 0) (pa_cons pe_int pa_nil))))
      (pss_cons (ps_set (i := 2) scNumber.nd rfl (.inl rfl) (pe_call L.ok hr (by rfl) L.at_ L.kp L.bi .nil pass0 (pa_cons (pv 0) (pa_cons (pe_ix ix_list (pe_lst (pa_cons pe_int (pa_cons pe_int (pa_cons pe_int (pa_cons (pe_op op_pow pe_int pe_int) pa_nil))))) (pv 1) (fun _ _ => rfl)) pa_nil))))
      (C8.pss_cut (ps_if (pt_cmpR op_eq (pv 1) pe_int (nomark _))
        (pss_one (ps_set (i := 2) scNumber.nd rfl (.inl rfl) (pe_op op_add (pe_op op_mul (pv 2) (pe_op op_pow pe_int pe_int)) (pe_call L.ok hr (by rfl) L.at_ L.kp L.bi .nil pass0 (pa_cons (pv 0) (pa_cons (pe_op op_pow pe_int pe_int) pa_nil)))))) pss_nil)
      (pss_one (ps_ret (pe_op op_mul (pv 2) (pe_op op_sub pe_int (pe_op op_mul pe_int (pe_call L.ok hr (by rfl) L.at_ L.kp L.bi .nil pass0 (pa_cons (pv 0) (pa_cons pe_int pa_nil)))))))))), ?_⟩
    refine ⟨_, rfl, ⟨_, _, _, rfl, hW, (by omega), (by decide), (by decide), fun r H1 r0 r1 f1 w1 => ?_⟩⟩
    refine ⟨_, rfl, _, _, rfl, rfl, ⟨by decide, by decide, by decide⟩, (by show 4 ≤ sizeLine; decide), fun l hl => ⟨_, rfl, ?_⟩⟩
    have w1' := w1.new (o := .lst [.int 13, .int 60, .int 1000, .int (10 ^ (15 : Int).toNat)]) hl
    obtain ⟨v, hv, hv2, he⟩ := atI_ints (xs := [13, 60, 1000, 10 ^ (15 : Int).toNat]) r0 r1
    have v0 : 0 < v ∧ v ≤ 10 ^ 15 := by
      simp only [List.mem_cons, List.not_mem_nil, or_false] at hv
      rcases hv with rfl | rfl | rfl | rfl <;> decide
    refine ⟨l, _, r, _, rfl, rfl, SqL.of upd_same, he, ⟨_, _, _, rfl, w1', (by omega), v0.1, (by omega), fun x H2 x0 x1 f2 w2 => ?_⟩⟩
    have f02 : Fr p H H2 := (f1.trans (Fr.new hl)).trans f2
    refine ⟨fun σ H3 => ∃ z : Int, σ = [some (.ref p), some (.int r), some (.int z)] ∧ 0 ≤ z ∧ z < 10 ^ 30 ∧ Fr p H H3 ∧ Well H3 p (n + 3), ?_, ?_⟩
    · refine ⟨_, rfl, rfl, _, rfl, ite2 (fun hc => ?_) (fun hc => ?_)⟩
      · refine ⟨_, rfl, _, _, rfl, rfl, ⟨by decide, by decide, by decide⟩, _, _, rfl, rfl, .inl ⟨by omega, by omega⟩, _, rfl, _, _, rfl, rfl, ⟨by decide, by decide, by decide⟩, ?_⟩
        refine ⟨_, _, _, rfl, w2, (by omega), (by decide), (by decide), fun y H3 y0 y1 f3 w3 => ⟨_, _, rfl, rfl, ?_⟩⟩
        refine ⟨_, rfl, ?_, ?_, f02.trans f3, w3⟩
        · have : (0 : Int) ≤ x * 10 ^ (15 : Int).toNat := Int.mul_nonneg x0 (by decide)
          omega
        · have e : (10 : Int) ^ (15 : Int).toNat = 10 ^ 15 := by decide
          rw [e] at y1 ⊢
          omega
      · exact ⟨x, rfl, x0, by omega, f02, w2.mono (by omega)⟩
    · rintro σ H3 ⟨z, rfl, z0, z1, f3, w3⟩
      refine ⟨_, rfl, _, rfl, ⟨_, _, _, rfl, w3, (by omega), (by decide), (by decide), fun y H4 y0 y1 f4 w4 => ?_⟩⟩
      refine ⟨_, _, rfl, rfl, .inl ⟨by decide, by decide⟩, _, _, rfl, rfl, _, _, rfl, rfl, .inr ⟨by omega, by omega⟩, ?_⟩
      have hy : y = 0 ∨ y = 1 := by omega
      refine k _ H4 ?_ ?_ (f3.trans f4) w4
      · rcases hy with rfl | rfl <;> omega
      · rcases hy with rfl | rfl <;> omega
end

theorem Fr.put {p q : Addr} {o : HO} {H J : Hp} (h : H q = none) (f : Fr p H J) : Fr p H (upd J q o) := fun b u e g => by
  rw [upd_ne (fun z => by rw [z, h] at e; cases e)]
  exact f b u e g
theorem rep_ints (k : Nat) (x : Int) : (List.replicate k [V.int x]).flatten = (List.replicate k x).map V.int := by
  induction k with
  | zero => rfl
  | succ k ih =>
    rw [List.replicate_succ, List.flatten_cons, ih, List.replicate_succ, List.map_cons]
    rfl
section
variable {P : Program} {w : World} {K : PySem.W.Frag} {mg : Str → Option Value} {base : Heap}
theorem scPaces : FnScope ["well", "size", "way", "found", "spot", "turn"] ["well", "size"] (defScope sPaces) := ⟨rfl, rfl, rfl, by decide +kernel, rfl, by decide +kernel, by decide +kernel⟩
/-- what stands between the statements of _law_paces -/
structure PMid (H : Hp) (p : Addr) (z : Int) (m : Nat) (q : Addr) (xs : List Int) (H1 : Hp) : Prop where
  new : H q = none
  ne : q ≠ p
  at_ : H1 q = some (.lst (xs.map V.int))
  len : (xs.length : Int) = z
  lo : ∀ v ∈ xs, 0 ≤ v ∧ v ≤ 3
  fr : Fr p H H1
  well : Well H1 p m
theorem ok_paces {f fT : Addr} {fd fdT : FuncData} (F : Fun K "_law_paces" "_law_paces" sPaces f fd) (T : Blt mg) (L : Tk P w K mg base fT fdT) : FnOk P w K mg base CX0 2 f fd ["well", "size"] spPaces := by
  refine F.ok scPaces (fun vs H Q E h => ?_) (fun cdv A outer s H vs Q E hr h => ?_)
  · obtain ⟨p, n, z, rfl, _⟩ := h
    rfl
  · obtain ⟨p, n, z, rfl, hW, hn, z0, z1, k⟩ := h
    refine ⟨_, pss_cons (ps_set (i := 2) scPaces.nd rfl (Or.inr rfl) (pe_call L.ok hr (by rfl) L.at_ L.kp L.bi .nil pass0 (pa_cons (pv 0) (pa_cons pe_int pa_nil))))
      (pss_cons (ps_set (i := 3) scPaces.nd rfl (.inl rfl) (pe_op op_rep (pe_lst (pa_cons pe_int pa_nil)) (pv 1)))
      (C8.pss_cut (ps_if (pt_cmpR op_lt (pv 2) pe_int (nomark _))
        (pss_one (ps_setLc (i := 3) (own := [("turn", 5)]) (g := gName 5) (tt := tYes) rfl scPaces.nd rfl rfl (sw_true rfl rfl rfl (by decide +kernel)) (pi_range1 (by rfl) T.range (pa_cons (pv 1) pa_nil))
          (blkOk_by (N := ["well", "size", "way", "found", "spot", "turn"]) (sc := defScope sPaces) (by decide +kernel)) (fun _ _ _ _ _ => pg_name (i := 5) scPaces.nd rfl (Or.inl rfl)) (fun _ _ _ _ _ => pts_nil)
          (fun _ _ _ _ _ => pe_call L.ok hr (by rfl) L.at_ L.kp L.bi .nil pass0 (pa_cons (pv 0) (pa_cons (pe_op op_sub pe_int (pe_op op_mul pe_int (pv 2))) pa_nil))))) pss_nil)
      (C8.pss_cut (ps_if (pt_cmpR op_eq (pv 2) pe_int (nomark _))
        (pss_one (ps_set (i := 3) scPaces.nd rfl (.inl rfl) (pe_op op_rep (pe_lst (pa_cons (pe_op op_add pe_int (pe_call L.ok hr (by rfl) L.at_ L.kp L.bi .nil pass0 (pa_cons (pv 0) (pa_cons pe_int pa_nil)))) pa_nil)) (pv 1)))) pss_nil)
      (C8.pss_cut (ps_if (pt_cmpR op_eq (pe_callB (cr_max rfl) (by rfl) T.max (by decide +kernel) (pa_cons (pv 3) pa_nil)) pe_int (nomark _))
        (pss_cons (ps_set (i := 4) scPaces.nd rfl (.inl rfl) (pe_call L.ok hr (by rfl) L.at_ L.kp L.bi .nil pass0 (pa_cons (pv 0) (pa_cons (pv 1) pa_nil))))
        (pss_one (ps_asg (pe_op op_add pe_int (pe_call L.ok hr (by rfl) L.at_ L.kp L.bi .nil pass0 (pa_cons (pv 0) (pa_cons pe_int pa_nil)))) (pg_sub (pv 3) (pv 4) set_list)))) pss_nil)
      (pss_one (ps_ret (pv 3))))))), ?_⟩
    refine ⟨_, rfl, ⟨_, _, _, rfl, hW, (by omega), (by decide), (by decide), fun r H1 r0 r1 f1 w1 => ?_⟩⟩
    refine ⟨(by show 1 ≤ sizeLine; decide), fun l hl => ⟨_, rfl, l, z, _, rfl, rfl, upd_same, by omega, by omega, by show 1 * z.toNat ≤ sizeLine; rw [sizeLine_eq]; omega, fun q hq => ?_⟩⟩
    rw [rep_ints]
    have hq1 : H1 q = none := by
      have ne : q ≠ l := fun e => by rw [e, upd_same] at hq; cases hq
      rw [upd_ne ne] at hq
      exact hq
    have free : ∀ {c : Addr} {J : Hp}, Fr p H J → Well J p (n + 1) → J c = none → H c = none ∧ c ≠ p := fun {c J} g g2 e => by
      refine ⟨?_, (g2.ne e).symm⟩
      cases e2 : H c with
      | none => rfl
      | some o =>
        rw [g c o e2 (g2.ne e).symm] at e
        cases e
    have hqH := free f1 w1 hq1
    have wL := (w1.new (o := .lst [V.int 0]) hl).new (o := .lst ((List.replicate z.toNat 0).map V.int)) hq
    have fL : Fr p H _ := (f1.trans (Fr.new (o := .lst [V.int 0]) hl)).trans (Fr.new (o := .lst ((List.replicate z.toNat 0).map V.int)) hq)
    have base0 : PMid H p z (n + 1) q (List.replicate z.toNat 0) (upd (upd H1 l (.lst [V.int 0])) q (.lst ((List.replicate z.toNat 0).map V.int))) :=
      ⟨hqH.1, hqH.2, upd_same, by rw [List.length_replicate]; omega, fun v hv => by rw [List.eq_of_mem_replicate hv]; exact ⟨by decide, by decide⟩, fL, wL⟩
    generalize upd (upd H1 l (.lst [V.int 0])) q (.lst ((List.replicate z.toNat 0).map V.int)) = HL at base0
    refine ⟨fun σ J => ∃ (q : Addr) (xs : List Int), σ = [some (.ref p), some (.int z), some (.int r), some (.ref q), none, none] ∧ PMid H p z (n + 13) q xs J, ?_, ?_⟩
    · refine ⟨_, rfl, _, _, rfl, rfl, _, rfl, ite2 (fun hc => ?_) (fun hc => ?_)⟩
      · have hr2 : r < 2 := of_decide_eq_true hc
        refine ⟨_, rfl, z, rfl, by omega, by omega, fun D hD => ?_⟩
        have hDn : D ≠ p := (base0.well.ne hD).symm
        have hDH := free base0.fr base0.well hD
        refine lc_range (lo := 0) (n := z.toNat) (fun i J => ∃ xs : List Int, J D = some (.lst (xs.map V.int)) ∧ xs.length = i ∧ (∀ v ∈ xs, 0 ≤ v ∧ v ≤ 3) ∧ Fr p H J ∧ Well J p (n + 1 + i))
          ⟨[], upd_same, rfl, fun v hv => absurd hv List.not_mem_nil, base0.fr.trans (Fr.new hD), base0.well.new hD⟩ ?_ ?_
        · rintro i J hi ⟨xs, hx, xl, xr, xf, xw⟩
          refine ⟨rfl, _, rfl, _, rfl, _, _, rfl, rfl, .inl ⟨by decide, by decide⟩, _, _, rfl, rfl, ⟨_, _, _, rfl, xw, (by omega), (by omega), (by omega), fun y J2 y0 y1 f2 w2 => ?_⟩⟩
          have hx2 := f2 _ _ hx hDn
          refine ⟨_, hx2, by rw [List.length_map]; exact small1000 (by omega), xs ++ [y], ?_, by simp [xl], ?_, Fr.put hDH.1 (xf.trans f2), (w2.upd_ne hDn.symm).mono (by omega)⟩
          · rw [upd_same, List.map_append]
            rfl
          · intro v hv
            rcases List.mem_append.mp hv with g | g
            · exact xr v g
            · rw [List.mem_singleton.mp g]
              exact ⟨y0, by omega⟩
        · rintro J ⟨xs, hx, xl, xr, xf, xw⟩
          exact ⟨D, xs, rfl, hDH.1, hDH.2, hx, by omega, xr, xf, xw.mono (by omega)⟩
      · exact ⟨q, _, rfl, base0.new, base0.ne, base0.at_, base0.len, base0.lo, base0.fr, base0.well.mono (by omega)⟩
    · rintro σ J ⟨q, xs, rfl, M⟩
      refine ⟨fun σ J => ∃ (q : Addr) (xs : List Int), σ = [some (.ref p), some (.int z), some (.int r), some (.ref q), none, none] ∧ PMid H p z (n + 14) q xs J, ?_, ?_⟩
      · refine ⟨_, rfl, rfl, _, rfl, ite2 (fun hc => ?_) (fun hc => ?_)⟩
        · refine ⟨_, rfl, ⟨_, _, _, rfl, M.well, (by omega), (by decide), (by decide), fun y J2 y0 y1 f2 w2 => ⟨_, _, rfl, rfl, (by show 1 ≤ sizeLine; decide), fun l hl => ?_⟩⟩⟩
          refine ⟨_, rfl, l, z, _, rfl, rfl, upd_same, by omega, by omega, by show 1 * z.toNat ≤ sizeLine; rw [sizeLine_eq]; omega, fun D hD => ?_⟩
          rw [rep_ints]
          have hD2 : J2 D = none := by
            have ne : D ≠ l := fun e => by rw [e, upd_same] at hD; cases hD
            rw [upd_ne ne] at hD
            exact hD
          have g2 := M.fr.trans f2
          refine ⟨D, _, rfl, ?_, (w2.ne hD2).symm, upd_same, by rw [List.length_replicate]; omega, fun v hv => by rw [List.eq_of_mem_replicate hv]; omega, (g2.trans (Fr.new hl)).trans (Fr.new hD), (w2.new hl).new hD⟩
          cases e2 : H D with
          | none => rfl
          | some o =>
            rw [g2 D o e2 (w2.ne hD2).symm] at hD2
            cases hD2
        · exact ⟨q, xs, rfl, M.new, M.ne, M.at_, M.len, M.lo, M.fr, M.well.mono (by omega)⟩
      · rintro σ J ⟨q, xs, rfl, M⟩
        have xl := M.len
        refine ⟨fun σ J => ∃ (q : Addr) (xs : List Int) (y4 : Option V), σ = [some (.ref p), some (.int z), some (.int r), some (.ref q), y4, none] ∧ PMid H p z (n + 20) q xs J ∧ ∃ v ∈ xs, v ≠ 0, ?_, ?_⟩
        · refine ⟨_, rfl, q, xs, rfl, SqL.of M.at_, by omega, fun m hm hmax => ⟨rfl, _, rfl, ite2 (fun hc => ?_) (fun hc => ?_)⟩⟩
          · refine ⟨_, rfl, _, rfl, ⟨_, _, _, rfl, M.well, (by omega), (by omega), (by omega), fun y J2 y0 y1 f2 w2 => ?_⟩⟩
            refine ⟨_, rfl, ⟨_, _, _, rfl, w2, (by omega), (by decide), (by decide), fun x J3 x0 x1 f3 w3 => ⟨_, _, rfl, rfl, ?_⟩⟩⟩
            have h3 := f3 _ _ (f2 _ _ M.at_ M.ne) M.ne
            have hj : ixN (xs.map V.int).length y = some y.toNat := by
              unfold ixN
              rw [if_pos y0, if_pos (by rw [List.length_map]; omega)]
            refine ⟨_, rfl, _, rfl, q, _, y, y.toNat, rfl, rfl, h3, hj, ?_⟩
            refine ⟨q, xs.set y.toNat (1 + x), _, rfl, ⟨M.new, M.ne, ?_, by rw [List.length_set]; exact xl, fun v hv => ?_, Fr.put M.new ((M.fr.trans f2).trans f3), (w3.upd_ne M.ne.symm).mono (by omega)⟩, 1 + x, ?_, by omega⟩
            · rw [upd_same, List.map_set]
            · rcases List.mem_or_eq_of_mem_set hv with g | g
              · exact M.lo v g
              · rw [g]
                omega
            · exact List.mem_set (by omega) _
          · refine ⟨q, xs, _, rfl, ⟨M.new, M.ne, M.at_, M.len, M.lo, M.fr, M.well.mono (by omega)⟩, m, hm, fun e => hc ?_⟩
            rw [e]
            exact decide_eq_true rfl
        · rintro σ J ⟨q, xs, y4, rfl, M, hp⟩
          have xl := M.len
          exact ⟨_, rfl, k q xs J ⟨M.lo, hp, by omega, by omega⟩ M.len M.new M.ne M.at_ M.fr M.well⟩
end

/-! ### the changes that a law draws: tuples of a moment and a speed -/
def Tups (H : Hp) : List Addr → List (Int × Int) → Prop
  | [], [] => True
  | t :: ts, m :: ms => H t = some (.tup [.int m.1, .int m.2]) ∧ Tups H ts ms
  | _, _ => False
theorem Tups.len {H : Hp} : ∀ {ts : List Addr} {ms : List (Int × Int)}, Tups H ts ms → ts.length = ms.length
  | [], [], _ => rfl
  | _ :: _, _ :: _, h => by
    rw [List.length_cons, List.length_cons, Tups.len h.2]
theorem Tups.imp {H H' : Hp} : ∀ {ts : List Addr} {ms : List (Int × Int)}, (∀ t xs, H t = some (.tup xs) → H' t = some (.tup xs)) → Tups H ts ms → Tups H' ts ms
  | [], [], _, _ => trivial
  | _ :: _, _ :: _, f, h => ⟨f _ _ h.1, Tups.imp f h.2⟩
theorem Tups.same {H H' : Hp} {ts : List Addr} {ms : List (Int × Int)} (h : Tups H ts ms) (f : Same H H') : Tups H' ts ms := h.imp fun _ _ e => f _ _ e
theorem Tups.fr {H H' : Hp} {p : Addr} {n : Nat} {ts : List Addr} {ms : List (Int × Int)} (h : Tups H ts ms) (w : Well H p n) (f : Fr p H H') : Tups H' ts ms := h.imp fun t xs e => f _ _ e fun z => by
  obtain ⟨a, b, c, g, _⟩ := w
  rw [z, g] at e
  cases e
theorem Tups.put {H : Hp} {q : Addr} {ys : List V} {o : HO} {ts : List Addr} {ms : List (Int × Int)} (h : Tups H ts ms) (g : H q = some (.lst ys)) : Tups (upd H q o) ts ms := h.imp fun t xs e => by
  rw [upd_ne (fun z => by rw [z, g] at e; cases e)]
  exact e
theorem Tups.snoc {H : Hp} {t : Addr} {m : Int × Int} : ∀ {ts : List Addr} {ms : List (Int × Int)}, Tups H ts ms → H t = some (.tup [.int m.1, .int m.2]) → Tups H (ts ++ [t]) (ms ++ [m])
  | [], [], _, g => ⟨g, trivial⟩
  | _ :: _, _ :: _, h, g => ⟨h.1, Tups.snoc h.2 g⟩
theorem Tups.get {H : Hp} : ∀ {ts : List Addr} {ms : List (Int × Int)} {i : Nat} {t : Addr}, Tups H ts ms → ts[i]? = some t → ∃ m, ms[i]? = some m ∧ H t = some (.tup [.int m.1, .int m.2])
  | _ :: _, m :: _, 0, t, h, e => by
    obtain rfl := Option.some.inj e
    exact ⟨m, rfl, h.1⟩
  | _ :: _, _ :: _, i + 1, t, h, e => Tups.get (i := i) h.2 e
/-- what a calendar takes as changes -/
structure Marks (cap : Int) (ms : List (Int × Int)) : Prop where
  asc : ms.Pairwise fun a b => a.1 < b.1
  val : ∀ m ∈ ms, 0 ≤ m.2 ∧ m.2 ≤ 3
  big : ∀ m ∈ ms, -(2 * 10 ^ 30) < m.1 ∧ m.1 < 2 * 10 ^ 30
  len : (ms.length : Int) ≤ cap
def spMarks : Sp := fun vs H Q _ => ∃ (p : Addr) (n : Nat) (z cap : Int), vs = [.ref p, .int z, .int cap] ∧ Well H p n ∧ n ≤ 10 ^ 7 ∧ 1 ≤ z ∧ z ≤ 1000 ∧ 0 ≤ cap ∧ cap ≤ 3 ∧
  ∀ (q : Addr) (ts : List Addr) (ms : List (Int × Int)) (H' : Hp), Marks cap ms → H q = none → q ≠ p → H' q = some (.lst (ts.map V.ref)) → Tups H' ts ms → (∀ t ∈ ts, H t = none) → Fr p H H' → Well H' p (n + 20) → Q (.ref q) H'
/-- _law_number stands at fN -/
structure Nb (P : Program) (w : World) (K : PySem.W.Frag) (mg : Str → Option Value) (base : Heap) (fN : Addr) (fdN : FuncData) : Prop where
  ok : FnOk P w K mg base CX0 2 fN fdN ["well"] spNumber
  at_ : mg "_law_number" = some (.ref fN)
  kp : PySem.W.keepIn K (.ref fN) = true
  bi : Binds K fdN ["well"] []
section
variable {P : Program} {w : World} {K : PySem.W.Frag} {mg : Str → Option Value} {base : Heap}
theorem scMarks : FnScope ["well", "size", "cap", "found", "many", "at", "turn"] ["well", "size", "cap"] (defScope sMarks) := ⟨rfl, rfl, rfl, by decide +kernel, rfl, by decide +kernel, by decide +kernel⟩
theorem free_of {p c : Addr} {n : Nat} {H J : Hp} (f : Fr p H J) (wl : Well J p n) (e : J c = none) : H c = none ∧ c ≠ p := by
  have g := (wl.ne e).symm
  refine ⟨?_, g⟩
  cases e2 : H c with
  | none => rfl
  | some o =>
    rw [f c o e2 g] at e
    cases e
theorem ok_marks {f fT fN : Addr} {fd fdT fdN : FuncData} (F : Fun K "_law_marks" "_law_marks" sMarks f fd) (T : Blt mg) (L : Tk P w K mg base fT fdT) (B : Nb P w K mg base fN fdN) : FnOk P w K mg base CX0 3 f fd ["well", "size", "cap"] spMarks := by
  refine F.ok scMarks (fun vs H Q E h => ?_) (fun cdv A outer s H vs Q E hr h => ?_)
  · obtain ⟨p, n, z, cap, rfl, _⟩ := h
    rfl
  · obtain ⟨p, n, z, cap, rfl, hW, hn, z0, z1, c0, c1, k⟩ := h
    have hr1 : Room 1 _ := hr.mono (by decide)
    refine ⟨_, pss_cons (ps_set (i := 3) scMarks.nd rfl (.inl rfl) (pe_lst pa_nil))
      (pss_cons (ps_set (i := 4) scMarks.nd rfl (.inl rfl) (pe_call L.ok hr1 (by rfl) L.at_ L.kp L.bi .nil pass0 (pa_cons (pv 0) (pa_cons (pe_op op_add (pv 2) pe_int) pa_nil))))
      (pss_cons (ps_set (i := 5) scMarks.nd rfl (.inl rfl) (pe_call B.ok hr (by rfl) B.at_ B.kp B.bi .nil pass0 (pa_cons (pv 0) pa_nil)))
      (pss_cons (ps_for PassesOwn.never rfl (pi_range1 (by rfl) T.range (pa_cons (pv 4) pa_nil)) (pg_name (i := 6) scMarks.nd rfl (.inl rfl))
        (pss_cons (ps_expr (pe_bm PySem.F.plainAttrs_list PySem.F.slot_list_append PySem.F.type_list_append mt_append (pv 3) (pa_cons (pe_tup (pa_cons (pv 5) (pa_cons (pe_call L.ok hr1 (by rfl) L.at_ L.kp L.bi .nil pass0 (pa_cons (pv 0) (pa_cons pe_int pa_nil))) pa_nil))) pa_nil)))
        (pss_one (ps_set (i := 5) scMarks.nd rfl (.inl rfl) (pe_op op_add (pe_op op_add (pv 5) pe_int) (pe_call L.ok hr1 (by rfl) L.at_ L.kp L.bi .nil pass0 (pa_cons (pv 0) (pa_cons (pe_ix ix_list (pe_lst (pa_cons pe_int (pa_cons pe_int (pa_cons (pe_op op_mul pe_int (pv 1)) (pa_cons (pe_op op_pow pe_int pe_int) pa_nil)))))
          (pe_call L.ok hr1 (by rfl) L.at_ L.kp L.bi .nil pass0 (pa_cons (pv 0) (pa_cons pe_int pa_nil))) (fun _ _ => rfl)) pa_nil))))))))
      (pss_one (ps_ret (pv 3)))))), ?_⟩
    refine ⟨Nat.zero_le _, fun q hq => ?_⟩
    have qp : q ≠ p := (hW.ne hq).symm
    refine ⟨_, rfl, _, rfl, _, _, rfl, rfl, ⟨_, _, _, rfl, hW.new hq, (by omega), (by omega), (by omega), fun m H1 m0 m1 f1 w1 => ?_⟩⟩
    refine ⟨_, rfl, ⟨_, _, rfl, w1, by omega, fun a0 H2 a1 a2 f2 w2 => ?_⟩⟩
    have f02 : Fr p H H2 := ((Fr.new hq).trans f1).trans f2
    have q2 : H2 q = some (.lst []) := f2 _ _ (f1 _ _ upd_same qp) qp
    refine ⟨_, rfl, m, rfl, by omega, by omega, for_range (lo := 0) (n := m.toNat) (fun i σ J => ∃ (ts : List Addr) (ms : List (Int × Int)) (a : Int) (y : Option V), σ = [some (.ref p), some (.int z), some (.int cap), some (.ref q), some (.int m), some (.int a), y] ∧
        J q = some (.lst (ts.map V.ref)) ∧ Tups J ts ms ∧ (∀ t ∈ ts, H t = none) ∧ ms.length = i ∧ (ms.Pairwise fun a b => a.1 < b.1) ∧ (∀ v ∈ ms, 0 ≤ v.2 ∧ v.2 ≤ 3) ∧ (∀ v ∈ ms, -10 ^ 30 < v.1 ∧ v.1 < a) ∧ -10 ^ 30 < a ∧ a < 10 ^ 30 + i * (10 ^ 29 + 1) ∧ Fr p H J ∧ Well J p (n + 5 + i * 3))
      ⟨[], [], a0, none, rfl, q2, trivial, fun t ht => absurd ht List.not_mem_nil, rfl, List.Pairwise.nil, fun v hv => absurd hv List.not_mem_nil, fun v hv => absurd hv List.not_mem_nil, a1, by omega, f02, w2.mono (by omega)⟩ ?_ ?_⟩
    · rintro i σ J hi ⟨ts, ms, a, y, rfl, hq3, tp, tn, ml, asc, val, big, b0, b1, fJ, wJ⟩
      have him : (i : Int) < m := by omega
      have ml3 : i ≤ 3 := by omega
      refine ⟨_, rfl, .inl ⟨rfl, _, SqL.of hq3⟩, _, rfl, _, rfl, ⟨_, _, _, rfl, wJ, (by omega), (by decide), (by decide), fun v J2 v0 v1 f2 w2 => ?_⟩⟩
      have hq4 := f2 _ _ hq3 qp
      have tp2 := tp.fr wJ f2
      refine ⟨(by show 2 ≤ sizeLine; decide), fun t ht => ?_⟩
      have tq : q ≠ t := ne_of_none hq4 ht
      have ft := free_of (fJ.trans f2) w2 ht
      have w3 := w2.new (o := .tup [.int a, .int v]) ht
      have hq5 : (upd J2 t (.tup [.int a, .int v])) q = some (.lst (ts.map V.ref)) := by rw [upd_ne tq]; exact hq4
      have tl := tp.len
      refine ⟨q, _, .ref t, rfl, rfl, hq5, by rw [List.length_map]; exact small1000 (by omega), ?_⟩
      have tp3 : Tups (upd (upd J2 t (.tup [.int a, .int v])) q (.lst (ts.map V.ref ++ [.ref t]))) (ts ++ [t]) (ms ++ [(a, v)]) :=
        ((tp2.same (same_new ht)).snoc (m := (a, v)) upd_same).put hq5
      have w4 := w3.upd_ne (o := .lst (ts.map V.ref ++ [.ref t])) qp.symm
      have f4 : Fr p H (upd (upd J2 t (.tup [.int a, .int v])) q (.lst (ts.map V.ref ++ [.ref t]))) := Fr.put (by exact (free_of (Fr.refl p H) hW hq).1) (Fr.put ft.1 (fJ.trans f2))
      have hq6 : (upd (upd J2 t (.tup [.int a, .int v])) q (.lst (ts.map V.ref ++ [.ref t]))) q = some (.lst ((ts ++ [t]).map V.ref)) := by rw [upd_same, List.map_append]; rfl
      generalize upd (upd J2 t (.tup [.int a, .int v])) q (.lst (ts.map V.ref ++ [.ref t])) = J4 at tp3 w4 f4 hq6
      refine ⟨_, rfl, _, _, rfl, rfl, _, rfl, _, rfl, _, _, rfl, rfl, .inl ⟨by decide, by decide⟩, _, _, rfl, rfl, ⟨by decide, by decide, by decide⟩, (by show 4 ≤ sizeLine; decide), fun l hl => ?_⟩
      have w5 := w4.new (o := .lst [.int 1, .int 4, .int (3 * z), .int (10 ^ (29 : Int).toNat)]) hl
      have lp := (w4.ne hl).symm
      refine ⟨_, rfl, ⟨_, _, _, rfl, w5, (by omega), (by decide), (by decide), fun x J6 x0 x1 f6 w6 => ?_⟩⟩
      obtain ⟨d, hd, hd2, he⟩ := atI_ints (xs := [1, 4, 3 * z, 10 ^ (29 : Int).toNat]) x0 x1
      have d0 : 0 < d ∧ d ≤ 10 ^ 29 := by
        have e : (10 : Int) ^ (29 : Int).toNat = 10 ^ 29 := by decide
        rw [e] at hd
        simp only [List.mem_cons, List.not_mem_nil, or_false] at hd
        rcases hd with rfl | rfl | rfl | rfl <;> omega
      refine ⟨l, _, x, _, rfl, rfl, SqL.of (f6 _ _ upd_same lp), he, ⟨_, _, _, rfl, w6, (by omega), d0.1, (by omega), fun u J7 u0 u1 f7 w7 => ?_⟩⟩
      have f47 : Fr p J4 J7 := ((Fr.new hl).trans f6).trans f7
      refine ⟨_, _, rfl, rfl, ts ++ [t], ms ++ [(a, v)], a + 1 + u, _, rfl, f47 _ _ hq6 qp, tp3.fr w4 f47, ?_, by simp [ml], ?_, ?_, ?_, by omega, by omega, f4.trans f47, w7.mono (by omega)⟩
      · intro t' ht'
        rcases List.mem_append.mp ht' with g | g
        · exact tn t' g
        · rw [List.mem_singleton.mp g]
          exact ft.1
      · rw [List.pairwise_append]
        refine ⟨asc, List.pairwise_singleton _ _, fun a1 h1 b1 h2 => ?_⟩
        rw [List.mem_singleton.mp h2]
        exact (big a1 h1).2
      · intro v' hv'
        rcases List.mem_append.mp hv' with g | g
        · exact val v' g
        · rw [List.mem_singleton.mp g]
          exact ⟨v0, by omega⟩
      · intro v' hv'
        rcases List.mem_append.mp hv' with g | g
        · have := big v' g
          omega
        · rw [List.mem_singleton.mp g]
          omega
    · rintro σ J ⟨ts, ms, a, y, rfl, hq3, tp, tn, ml, asc, val, big, b0, b1, fJ, wJ⟩
      have hm : m ≤ cap := by omega
      have ml3 : m.toNat ≤ 3 := by omega
      exact ⟨_, rfl, k q ts ms J ⟨asc, val, fun v hv => by have := big v hv; omega, by omega⟩ (free_of (Fr.refl p H) hW hq).1 qp hq3 tp tn fJ (wJ.mono (by omega))⟩
end

/-! ### the calendar: what its constructor asks, and what it leaves -/
structure Con (mg : Str → Option Value) : Prop where
  gw : ∃ t, mg "GREATEST_WEEK" = some (.int 12 t)
  gs : ∃ t, mg "GREATEST_SPEED" = some (.int 3 t)
  enum : mg "enumerate" = none
def spIsSpeed : Sp := fun vs H Q _ => ∃ v : Int, vs = [.int v] ∧ Q (.bl (decide (0 ≤ v ∧ v ≤ 3))) H
def spChkS (K : PySem.W.Frag) : Sp := fun vs H Q _ => ∃ (a : Addr) (ps : List Int), vs = [.ref a] ∧ SqL K H a (ps.map V.int) ∧ Paces ps ∧ ∀ H', Same H H' → Q .non H'
/-- changes that are right -/
structure Fit (ms : List (Int × Int)) : Prop where
  asc : ms.Pairwise fun a b => a.1 < b.1
  val : ∀ m ∈ ms, 0 ≤ m.2 ∧ m.2 ≤ 3
  len : ms.length ≤ 1000
def spChkC (K : PySem.W.Frag) : Sp := fun vs H Q _ => ∃ (a : Addr) (ts : List Addr) (ms : List (Int × Int)), vs = [.ref a] ∧ SqL K H a (ts.map V.ref) ∧ Tups H ts ms ∧ Fit ms ∧ ∀ H', Same H H' → Q .non H'
/-- whether a change stands behind the one ahead of it -/
def behind (ms : List (Int × Int)) (i : Nat) : Bool := decide (i = 0) || decide ((ms.getD (i - 1) (0, 0)).1 < (ms.getD i (0, 0)).1)
def spChkW : Sp := fun vs H Q _ => ∃ n : Int, vs = [.int n] ∧ 1 ≤ n ∧ n ≤ 12 ∧ Q .non H
def spBehind (K : PySem.W.Frag) : Sp := fun vs H Q _ => ∃ (a : Addr) (ts : List Addr) (ms : List (Int × Int)) (i : Nat), vs = [.ref a, .int (i : Int)] ∧ SqL K H a (ts.map V.ref) ∧ Tups H ts ms ∧ i < ms.length ∧ Q (.bl (behind ms i)) H
/-- a def of the program stands under a name of its module -/
structure At (P : Program) (w : World) (K : PySem.W.Frag) (mg : Str → Option Value) (base : Heap) (k : Nat) (x : Str) (ps : List Str) (sp : Sp) (f : Addr) (fd : FuncData) : Prop where
  ok : FnOk P w K mg base CX0 k f fd ps sp
  at_ : mg x = some (.ref f)
  kp : PySem.W.keepIn K (.ref f) = true
  bi : Binds K fd ps []
section
variable {P : Program} {w : World} {K : PySem.W.Frag} {mg : Str → Option Value} {base : Heap}
theorem scIsSpeed : FnScope ["number"] ["number"] (defScope sIsSpeed) := ⟨rfl, rfl, rfl, by decide +kernel, rfl, by decide +kernel, by decide +kernel⟩
theorem ok_isSpeed {f : Addr} {fd : FuncData} (F : Fun K "is_speed" "is_speed" sIsSpeed f fd) (C : Con mg) : FnOk P w K mg base CX0 1 f fd ["number"] spIsSpeed := by
  refine F.ok scIsSpeed (fun vs H Q E h => ?_) (fun cdv A outer s H vs Q E hr h => ?_)
  · obtain ⟨v, rfl, _⟩ := h
    rfl
  · obtain ⟨v, rfl, q⟩ := h
    obtain ⟨t, ht⟩ := C.gs
    refine ⟨_, pss_one (ps_ret (pe_chain op_le op_le pe_int (pv 0) (pe_glob (v := .int 3) (by rfl) ht ⟨t, rfl⟩))), ?_⟩
    refine ⟨_, rfl, _, _, rfl, rfl, _, rfl, ite2 (fun h => ?_) (fun h => ?_)⟩
    · refine ⟨_, _, rfl, rfl, ?_⟩
      have h0 : 0 ≤ v := of_decide_eq_true h
      have e : decide (0 ≤ v ∧ v ≤ 3) = decide (v ≤ 3) := by
        rw [decide_eq_decide]
        omega
      rw [e] at q
      exact q
    · have h0 : ¬ 0 ≤ v := fun g => h (decide_eq_true g)
      have e : decide (0 ≤ v ∧ v ≤ 3) = false := decide_eq_false fun g => h0 g.1
      rw [e] at q
      exact q
theorem scChkW : FnScope ["number"] ["number"] (defScope sChkWeek) := ⟨rfl, rfl, rfl, by decide +kernel, rfl, by decide +kernel, by decide +kernel⟩
theorem ok_chkW {f : Addr} {fd : FuncData} (F : Fun K "check_week" "check_week" sChkWeek f fd) (C : Con mg) : FnOk P w K mg base CX0 1 f fd ["number"] spChkW := by
  refine F.ok scChkW (fun vs H Q E h => ?_) (fun cdv A outer s H vs Q E hr h => ?_)
  · obtain ⟨n, rfl, _⟩ := h
    rfl
  · obtain ⟨n, rfl, n1, n2, q⟩ := h
    obtain ⟨t, ht⟩ := C.gw
    refine ⟨_, pss_one (ps_if (pt_not (pt_chain op_le op_le pe_int (pv 0) (pe_glob (v := .int 12) (by rfl) ht ⟨t, rfl⟩))) (pss_one ps_never) pss_nil), ?_⟩
    refine ⟨_, rfl, _, _, rfl, rfl, _, rfl, ite2 (fun g => ?_) (fun g => absurd (decide_eq_true (by omega)) g)⟩
    refine ⟨_, _, rfl, rfl, _, rfl, ite2 (fun g2 => absurd g2 ?_) (fun _ => q)⟩
    rw [decide_eq_true (by omega)]
    decide
theorem scBehind : FnScope ["changes", "index"] ["changes", "index"] (defScope sBehind) := ⟨rfl, rfl, rfl, by decide +kernel, rfl, by decide +kernel, by decide +kernel⟩
theorem behind_fit {ms : List (Int × Int)} {i : Nat} (h : ms.Pairwise fun a b => a.1 < b.1) (hi : i < ms.length) : behind ms i = true := by
  unfold behind
  cases i with
  | zero => rfl
  | succ j =>
    have lt := List.pairwise_iff_getElem.mp h j (j + 1) (by omega) hi (by omega)
    simp only [Nat.add_sub_cancel]
    rw [List.getD_eq_getElem?_getD, List.getD_eq_getElem?_getD, List.getElem?_eq_getElem hi, List.getElem?_eq_getElem (by omega : j < ms.length)]
    simp [lt]
theorem ok_behind {f : Addr} {fd : FuncData} (F : Fun K "is_behind" "is_behind" sBehind f fd) : FnOk P w K mg base CX0 1 f fd ["changes", "index"] (spBehind K) := by
  refine F.ok scBehind (fun vs H Q E h => ?_) (fun cdv A outer s H vs Q E hr h => ?_)
  · obtain ⟨a, ts, ms, i, rfl, _⟩ := h
    rfl
  · obtain ⟨a, ts, ms, i, rfl, hS, tp, hi, q⟩ := h
    refine ⟨_, pss_one (ps_ret (pe_or (pe_cmpR op_eq (pv 1) pe_int (nomark _)) (pe_one (pe_cmpR op_lt
      (pe_ix ix_tup (pe_ix ix_list (pv 0) (pe_op op_sub (pv 1) pe_int) (fun _ _ => rfl)) pe_int (fun _ _ => rfl))
      (pe_ix ix_tup (pe_ix ix_list (pv 0) (pv 1) (fun _ _ => rfl)) pe_int (fun _ _ => rfl)) (nomark _))))), ?_⟩
    have tl := tp.len
    have ez : decide (V.int (i : Int) = V.int 0) = decide (i = 0) := by
      rw [decide_eq_decide]
      exact ⟨fun e => by injection e with e; omega, fun e => by rw [e]; rfl⟩
    refine ⟨_, rfl, rfl, _, rfl, ?_⟩
    rw [ez]
    cases i with
    | zero => exact q
    | succ j =>
      have hj : j < ts.length := by omega
      have hj1 : j + 1 < ts.length := by omega
      obtain ⟨m', hm', hm2'⟩ := tp.get (List.getElem?_eq_getElem hj)
      obtain ⟨m, hm, hm2⟩ := tp.get (List.getElem?_eq_getElem hj1)
      have ej : (((j + 1 : Nat) : Int) - 1) = (j : Nat) := by omega
      refine ⟨_, rfl, _, rfl, _, _, rfl, rfl, a, _, _, _, rfl, rfl, hS, at_of (j := j) (v := V.ref ts[j]) ej (by rw [List.getElem?_map, List.getElem?_eq_getElem hj]; rfl), ts[j], _, 0, _, rfl, rfl, SqT.of hm2', atI_nat (j := 0) rfl,
        _, rfl, _, rfl, a, _, _, _, rfl, rfl, hS, atI_nat (j := j + 1) (v := V.ref ts[j + 1]) (by rw [List.getElem?_map, List.getElem?_eq_getElem hj1]; rfl), ts[j + 1], _, 0, _, rfl, rfl, SqT.of hm2, atI_nat (j := 0) rfl, _, _, rfl, rfl, ?_⟩
      have e : behind ms (j + 1) = decide (m'.1 < m.1) := by
        unfold behind
        simp only [Nat.add_sub_cancel]
        rw [List.getD_eq_getElem?_getD, List.getD_eq_getElem?_getD, hm, hm']
        simp
      rw [e] at q
      exact q
theorem scChkS : FnScope ["speeds", "index", "speed"] ["speeds"] (defScope sChkSpeeds) := ⟨rfl, rfl, rfl, by decide +kernel, rfl, by decide +kernel, by decide +kernel⟩
theorem ok_chkS {f fI fW : Addr} {fd fdI fdW : FuncData} (F : Fun K "check_speeds" "check_speeds" sChkSpeeds f fd) (C : Con mg) (T : Blt mg) (I : At P w K mg base 1 "is_speed" ["number"] spIsSpeed fI fdI) (W : At P w K mg base 1 "check_week" ["number"] spChkW fW fdW) :
    FnOk P w K mg base CX0 2 f fd ["speeds"] (spChkS K) := by
  refine F.ok scChkS (fun vs H Q E h => ?_) (fun cdv A outer s H vs Q E hr h => ?_)
  · obtain ⟨a, ps, rfl, _⟩ := h
    rfl
  · obtain ⟨a, ps, rfl, hS, hp, k⟩ := h
    refine ⟨_, pss_cons (ps_expr (pe_call W.ok hr (by rfl) W.at_ W.kp W.bi .nil pass0 (pa_cons (pe_callB call_len_seq (by rfl) T.len PySem.boot_len (pa_cons (pv 0) pa_nil)) pa_nil)))
      (pss_cons (ps_for PassesOwn.never rfl (pi_enum (by rfl) C.enum (pa_cons (pv 0) pa_nil)) (pg_tup rfl (pgs_cons (pg_name (i := 1) scChkS.nd rfl (.inl rfl)) (pgs_cons (pg_name (i := 2) scChkS.nd rfl (.inl rfl)) pgs_nil)))
        (pss_one (ps_if (pt_not (pt_val (pe_call I.ok hr (by rfl) I.at_ I.kp I.bi .nil pass0 (pa_cons (pv 2) pa_nil)))) (pss_one ps_never) pss_nil)))
      (pss_one (ps_if (pt_cmpR op_eq (pe_callB (cr_max rfl) (by rfl) T.max (by decide +kernel) (pa_cons (pv 0) pa_nil)) pe_int (nomark _)) (pss_one ps_never) pss_nil))), ?_⟩
    have l0 := hp.len0
    have l1 := hp.len1
    have hlen : (((ps.map V.int).length : Nat) : Int) = ps.length := by rw [List.length_map]
    refine ⟨_, rfl, a, _, rfl, .inl hS, ⟨_, rfl, by rw [hlen]; omega, by rw [hlen]; omega, ?_⟩⟩
    refine ⟨_, rfl, a, _, rfl, hS, for_it (walk_enum (K := K) (a := a) (xs := ps.map V.int)) (fun i σ J => ∃ y1 y2 : Option V, σ = [some (.ref a), y1, y2] ∧ Same H J) ⟨none, none, rfl, Same.refl H⟩ (fun i σ J _ ⟨_, _, _, g⟩ => g.seq hS) ?_ ?_⟩
    · rintro i x σ J J' hi ⟨y1, y2, rfl, hs⟩ ⟨T', x1, x2, rfl, nT, rfl, e1, e2⟩
      obtain rfl := Option.some.inj e1
      have hi' : i < ps.length := by simpa using hi
      replace e2 : (List.map _ _)[i]? = some x2 := e2
      rw [List.getElem?_map, List.getElem?_eq_getElem hi'] at e2
      obtain rfl := Option.some.inj e2
      refine ⟨T', _, rfl, .inl (.inl upd_same), rfl, _, _, rfl, _, [], rfl, rfl, ?_⟩
      have hv := hp.lo _ (List.getElem_mem hi')
      refine ⟨_, rfl, _, rfl, _, rfl, ?_⟩
      rw [decide_eq_true hv]
      exact ⟨_, _, rfl, hs.trans (same_new nT)⟩
    · rintro σ J ⟨y1, y2, rfl, hs⟩
      refine ⟨_, rfl, a, ps, rfl, hs.seq hS, l0, fun m hm hmax => ⟨rfl, _, rfl, ite2 (fun g => ?_) (fun _ => k J hs)⟩⟩
      have g2 : m = 0 := by
        have := of_decide_eq_true g
        injection this
      obtain ⟨v, hv, v0⟩ := hp.pos
      have := hmax v hv
      have := hp.lo v hv
      omega
theorem scChkC : FnScope ["changes", "index", "_", "speed"] ["changes"] (defScope sChkChanges) := ⟨rfl, rfl, rfl, by decide +kernel, rfl, by decide +kernel, by decide +kernel⟩
theorem ok_chkC {f fI fB : Addr} {fd fdI fdB : FuncData} (F : Fun K "check_changes" "check_changes" sChkChanges f fd) (C : Con mg) (T : Blt mg) (I : At P w K mg base 1 "is_speed" ["number"] spIsSpeed fI fdI) (B : At P w K mg base 1 "is_behind" ["changes", "index"] (spBehind K) fB fdB) :
    FnOk P w K mg base CX0 2 f fd ["changes"] (spChkC K) := by
  refine F.ok scChkC (fun vs H Q E h => ?_) (fun cdv A outer s H vs Q E hr h => ?_)
  · obtain ⟨a, ts, ms, rfl, _⟩ := h
    rfl
  · obtain ⟨a, ts, ms, rfl, hS, tp, fit, k⟩ := h
    refine ⟨_, pss_one (ps_for PassesOwn.never rfl (pi_enum (by rfl) C.enum (pa_cons (pv 0) pa_nil))
        (pg_tup rfl (pgs_cons (pg_name (i := 1) scChkC.nd rfl (.inl rfl)) (pgs_cons (pg_tup rfl (pgs_cons (pg_name (i := 2) scChkC.nd rfl (.inl rfl)) (pgs_cons (pg_name (i := 3) scChkC.nd rfl (.inl rfl)) pgs_nil))) pgs_nil)))
        (pss_one (ps_if (PW.pt (pw_or (pt_not (pt_val (pe_call I.ok hr (by rfl) I.at_ I.kp I.bi .nil pass0 (pa_cons (pv 3) pa_nil))))
          (pw_or1 (pt_not (pt_val (pe_call B.ok hr (by rfl) B.at_ B.kp B.bi .nil pass0 (pa_cons (pv 0) (pa_cons (pv 1) pa_nil)))))))) (pss_one ps_never) pss_nil))), ?_⟩
    have tl := tp.len
    refine ⟨_, rfl, a, _, rfl, hS, for_it (walk_enum (K := K) (a := a) (xs := ts.map V.ref)) (fun i σ J => ∃ y1 y2 y3 : Option V, σ = [some (.ref a), y1, y2, y3] ∧ Same H J) ⟨none, none, none, rfl, Same.refl H⟩ (fun i σ J _ ⟨_, _, _, _, g⟩ => g.seq hS) ?_ ?_⟩
    · rintro i x σ J J' hi ⟨y1, y2, y3, rfl, hs⟩ ⟨T', x1, x2, rfl, nT, rfl, e1, e2⟩
      obtain rfl := Option.some.inj e1
      have hi' : i < ts.length := by simpa using hi
      replace e2 : (List.map _ _)[i]? = some x2 := e2
      rw [List.getElem?_map, List.getElem?_eq_getElem hi'] at e2
      obtain rfl := Option.some.inj e2
      have s2 := hs.trans (same_new (o := .tup [.int (i : Nat), .ref ts[i]]) nT)
      obtain ⟨m, hm, hm2⟩ := (tp.same s2).get (List.getElem?_eq_getElem hi')
      refine ⟨T', _, rfl, .inl (.inl upd_same), rfl, _, _, rfl, _, [], rfl, ⟨_, _, rfl, .inl (.inl hm2), rfl, _, _, rfl, _, [], rfl, rfl, rfl, ?_⟩⟩
      have hv := fit.val _ (List.mem_of_getElem? hm)
      refine ⟨_, rfl, _, rfl, _, rfl, ?_⟩
      rw [decide_eq_true hv]
      refine ⟨_, rfl, _, rfl, ⟨a, ts, ms, i, rfl, s2.seq hS, tp.same s2, by omega, ?_⟩⟩
      rw [behind_fit fit.asc (by omega)]
      exact ⟨_, rfl, _, _, _, rfl, s2⟩
    · rintro σ J ⟨y1, y2, y3, rfl, hs⟩
      exact k J hs
end

/-- a dict comprehension over anything that is walked -/
theorem dc_it {J : It} {n : Nat} {G : Hp → Prop} {Y : Nat → Hp → V → Hp → Prop} (wk : Walk J n G Y) {g : TG} {tt : TT} {tk tv : TE} {vs : List Nat} {σ : L2.St} {H1 : Hp} {D : Addr} {Qd : Hp → Prop}
    (Pv : Nat → Hp → Prop) (h0 : Pv 0 (upd H1 D (.dK []))) (hG : ∀ i H, i ≤ n → Pv i H → G H)
    (hs : ∀ i x H H', i < n → Pv i H → Y i H x H' → g x (wipe σ vs) H' fun σ2 H2 => wipe σ2 vs = wipe σ vs ∧ tt σ2 H2 fun b H3 =>
      if b = true then tk σ2 H3 fun y H4 => tv σ2 H4 fun z H5 => ∃ kvs k, y = kV k ∧ H5 D = some (.dK kvs) ∧ kvs.length < sizeLine ∧
        Pv (i + 1) (upd H5 D (.dK (putK kvs k z))) else Pv (i + 1) H3) (hd : ∀ H, Pv n H → Qd H) :
    ∃ W : Nat → Nat → Hp → Prop, (∃ m, W 0 m (upd H1 D (.dK []))) ∧ ∀ i m H, W i m H →
      (J.stop i H ∧ Qd H) ∨ (J.go i H ∧ ∃ Nx : Hp → Prop, (∀ H', Nx H' → ∃ m', m' < m ∧ W (i + 1) m' H') ∧
        ∀ x H', J.yld i H x H' → g x (wipe σ vs) H' fun σ2 H2 => wipe σ2 vs = wipe σ vs ∧ tt σ2 H2 fun b H3 =>
          if b = true then tk σ2 H3 fun y H4 => tv σ2 H4 fun z H5 => ∃ kvs k, y = kV k ∧ H5 D = some (.dK kvs) ∧
            kvs.length < sizeLine ∧ Nx (upd H5 D (.dK (putK kvs k z))) else Nx H3) := by
  refine ⟨fun i m H => m = n - i ∧ i ≤ n ∧ Pv i H, ⟨n - 0, rfl, Nat.zero_le _, h0⟩, fun i m H hw => ?_⟩
  obtain ⟨rfl, hle, hp⟩ := hw
  rcases Nat.lt_or_ge i n with hlt | hge
  · refine Or.inr ⟨wk.goes i H hlt (hG i H hle hp), Pv (i + 1), fun H' q => ⟨n - (i + 1), by omega, rfl, hlt, q⟩, fun x H' hy => ?_⟩
    exact hs i x H H' hlt hp (wk.yields i H x H' hlt (hG i H hle hp) hy)
  · obtain rfl : i = n := by omega
    exact Or.inl ⟨wk.stops H (hG i H hle hp), hd H hp⟩
/-- the speed of the bare week -/
def paceOf (ps : List Int) (t : Int) : Int := ps.getD (t % ps.length).toNat 0
/-- the changes that change something -/
def realOf (ps : List Int) (ms : List (Int × Int)) : List (Int × Int) := ms.filter fun m => decide (m.2 ≠ paceOf ps m.1)
def kvP (m : Int × Int) : Key × V := (Sum.inl m.1, V.int m.2)
theorem valV_kvP : ∀ (ms : List (Int × Int)) (t : Int), valV (ms.map kvP) (Sum.inl t : Key) = (ms.find? fun m => decide (m.1 = t)).map fun m => V.int m.2
  | [], _ => rfl
  | m :: ms, t => by
    have ih := valV_kvP ms t
    unfold valV at ih ⊢
    rw [List.map_cons, List.find?_cons, List.find?_cons]
    have e : decide ((kvP m).1 = (Sum.inl t : Key)) = decide (m.1 = t) := by
      rw [decide_eq_decide]
      unfold kvP
      constructor
      · intro h
        injection h
      · intro h
        rw [h]
    rw [e]
    cases decide (m.1 = t) with
    | true => rfl
    | false => exact ih
theorem atI_pace {ps : List Int} {t : Int} (h : 0 < ps.length) : atI (ps.map V.int) (t % ps.length) = some (.int (paceOf ps t)) := by
  have h0 := Int.emod_nonneg t (show (ps.length : Int) ≠ 0 by omega)
  have h1 := Int.emod_lt_of_pos t (show (0 : Int) < ps.length by omega)
  obtain ⟨v, _, e, e2⟩ := atI_ints h0 h1
  rw [e2]
  unfold paceOf
  rw [List.getD_eq_getElem?_getD, e]
  rfl
def calF (l d : Addr) : List (Str × V) := putF "_changes" (.ref d) (putF "_speeds" (.ref l) [])
theorem calNe : ¬ (("_speeds" : Str) = "_changes") := by decide +kernel
theorem calF_s (l d : Addr) : (calF l d).lookup ("_speeds" : Str) = some (.ref l) := by
  unfold calF
  rw [lookup_putF, if_neg calNe, lookup_putF, if_pos rfl]
theorem calF_c (l d : Addr) : (calF l d).lookup ("_changes" : Str) = some (.ref d) := by
  unfold calF
  rw [lookup_putF, if_pos rfl]
theorem calF_no (l d : Addr) {m : Str} (h1 : ¬ m = "_changes") (h2 : ¬ m = "_speeds") : (calF l d).lookup m = none := by
  unfold calF
  rw [lookup_putF, if_neg h1, lookup_putF, if_neg h2]
  rfl
/-- a calendar with these speeds and these changes stands at x; its list at l, its dict at d -/
structure CalAt (C : Addr) (H : Hp) (x l d : Addr) (ps : List Int) (ms : List (Int × Int)) : Prop where
  ob : ∃ dx, H x = some (.ins C dx (calF l d))
  ls : H l = some (.lst (ps.map V.int))
  dc : H d = some (.dK (ms.map kvP))
theorem CalAt.same {C : Addr} {H H' : Hp} {x l d : Addr} {ps : List Int} {ms : List (Int × Int)} (h : CalAt C H x l d ps ms) (f : Same H H') : CalAt C H' x l d ps ms := by
  obtain ⟨⟨dx, h1⟩, h2, h3⟩ := h
  exact ⟨⟨dx, f _ _ h1⟩, f _ _ h2, f _ _ h3⟩
theorem CalAt.put {C : Addr} {H : Hp} {x l d c : Addr} {o : HO} {ps : List Int} {ms : List (Int × Int)} (h : CalAt C H x l d ps ms) (n1 : x ≠ c) (n2 : l ≠ c) (n3 : d ≠ c) : CalAt C (upd H c o) x l d ps ms := by
  obtain ⟨⟨dx, h1⟩, h2, h3⟩ := h
  exact ⟨⟨dx, by rw [upd_ne n1]; exact h1⟩, by rw [upd_ne n2]; exact h2, by rw [upd_ne n3]; exact h3⟩
theorem CalAt.fr {C : Addr} {H H' : Hp} {x l d p : Addr} {ps : List Int} {ms : List (Int × Int)} (h : CalAt C H x l d ps ms) (f : Fr p H H') (n1 : x ≠ p) (n2 : l ≠ p) (n3 : d ≠ p) : CalAt C H' x l d ps ms := by
  obtain ⟨⟨dx, h1⟩, h2, h3⟩ := h
  exact ⟨⟨dx, f _ _ h1 n1⟩, f _ _ h2 n2, f _ _ h3 n3⟩
def spInit (C : Addr) (K : PySem.W.Frag) : Sp := fun vs H Q _ => ∃ (x dx a b : Addr) (ps : List Int) (ts : List Addr) (ms : List (Int × Int)), vs = [.ref x, .ref a, .ref b] ∧ H x = some (.ins C dx []) ∧
  SqL K H a (ps.map V.int) ∧ SqL K H b (ts.map V.ref) ∧ Tups H ts ms ∧ Paces ps ∧ Fit ms ∧ a ≠ x ∧ b ≠ x ∧
  ∀ H' l d, CalAt C H' x l d ps (realOf ps ms) → H l = none → H d = none → (∀ c o, H c = some o → c ≠ x → H' c = some o) → Q .non H'
/-- len of a list or a tuple, told by the written part -/
def rLen (K : PySem.W.Frag) : List V → Hp → VK → Prop := fun vs H Q => ∃ (p : Addr) (ys : List V), vs = [.ref p] ∧
  (SqL K H p ys ∨ SqT K H p ys) ∧ Q (.int (ys.length : Nat)) H
/-- the class of calendars as the top has made it -/
structure Cal (K : PySem.W.Frag) (mg : Str → Option Value) (C : Addr) : Prop where
  cl : Cls K C
  nS : NoAttr K C "_speeds"
  nC : NoAttr K C "_changes"
  at_ : mg "Calendar" = some (.ref C)
section
variable {P : Program} {w : World} {K : PySem.W.Frag} {mg : Str → Option Value} {base : Heap}
theorem scInit : FnScope ["self", "speeds", "changes", "moment", "speed"] ["self", "speeds", "changes"] (defScope sInit) := ⟨rfl, rfl, rfl, by decide +kernel, rfl, by decide +kernel, by decide +kernel⟩
theorem ok_init {f fS fC C : Addr} {fd fdS fdC : FuncData} (F : Fun K "__init__" "Calendar.__init__" sInit f fd) (Z : Cal K mg C) (T : Blt mg)
    (S : At P w K mg base 2 "check_speeds" ["speeds"] (spChkS K) fS fdS) (B : At P w K mg base 2 "check_changes" ["changes"] (spChkC K) fC fdC) :
    FnOk P w K mg base CX0 3 f fd ["self", "speeds", "changes"] (spInit C K) := by
  refine F.ok scInit (fun vs H Q E h => ?_) (fun cdv A outer s H vs Q E hr h => ?_)
  · obtain ⟨x, dx, a, b, ps, ts, ms, rfl, _⟩ := h
    rfl
  · obtain ⟨x, dx, a, b, ps, ts, ms, rfl, hx, ha, hb, tp, hp, fit, ax, bx, k⟩ := h
    refine ⟨_, pss_cons (ps_expr (pe_call S.ok hr (by rfl) S.at_ S.kp S.bi .nil pass0 (pa_cons (pv 1) pa_nil)))
      (pss_cons (ps_expr (pe_call B.ok hr (by rfl) B.at_ B.kp B.bi .nil pass0 (pa_cons (pv 2) pa_nil)))
      (pss_cons (ps_fld (pv 0) (pe_callTy call_list_of (by rfl) T.list (by decide +kernel) (pa_cons (pv 1) pa_nil)) rfl)
      (pss_one (ps_fld (pv 0) (pe_dc (own := [("moment", 3), ("speed", 4)]) (g := gTup K 2 (gCons (gName 3) (gCons (gName 4) gNil))) rfl scInit.nd (pi_list (pv 2)) (blkOk_by (N := ["self", "speeds", "changes", "moment", "speed"]) (sc := defScope sInit) (by decide +kernel))
        (fun _ _ _ _ _ => pg_tup rfl (pgs_cons (pg_name (i := 3) scInit.nd rfl (.inl rfl)) (pgs_cons (pg_name (i := 4) scInit.nd rfl (.inl rfl)) pgs_nil)))
        (fun _ _ _ _ _ => pts_one (pt_cmpR op_ne (pv 4) (pe_ix (r := rIxL K) ix_list (pv 1) (pe_op op_mod (pv 3) (pe_callB (r := rLen K) call_len_seq (by rfl) T.len PySem.boot_len (pa_cons (pv 1) pa_nil))) (fun _ _ => rfl)) (nomark _)))
        (fun _ _ _ _ _ => pv 3) (fun _ _ _ _ _ => pv 4)) rfl)))), ?_⟩
    have l0 := hp.len0
    have l1 := hp.len1
    refine ⟨_, rfl, a, ps, rfl, ha, hp, fun H1 s1 => ?_⟩
    refine ⟨_, rfl, b, ts, ms, rfl, s1.seq hb, tp.same s1, fit, fun H2 s2 => ?_⟩
    have s12 := s1.trans s2
    refine ⟨_, rfl, a, _, rfl, .inl (s12.seq ha), fun l hl => ?_⟩
    have hx2 := s12 _ _ hx
    have xl : x ≠ l := ne_of_none hx2 hl
    refine ⟨_, rfl, x, C, dx, _, rfl, (by rw [upd_ne xl]; exact hx2), Z.cl, Z.nS, (by show 0 < 1000; decide), ?_⟩
    generalize hH3 : upd (upd H2 l (.lst (ps.map V.int))) x (.ins C dx (putF "_speeds" (.ref l) [])) = H3
    have f3 : ∀ c o, H c = some o → c ≠ x → H3 c = some o := fun c o e g => by
      have e2 := s12 _ _ e
      rw [← hH3, upd_ne g, upd_ne (ne_of_none e2 hl)]
      exact e2
    have sq : ∀ {c : Addr} {xs : List V}, c ≠ x → SqL K H c xs → SqL K H3 c xs := fun {c xs} g h => by
      rcases h with (h | ⟨o, h⟩) | h
      · exact .inl (.inl (f3 _ _ h g))
      · exact .inl (.inr ⟨o, f3 _ _ h g⟩)
      · exact .inr h
    have hx3 : H3 x = some (.ins C dx (putF "_speeds" (.ref l) [])) := by rw [← hH3]; exact upd_same
    have hl3 : H3 l = some (.lst (ps.map V.int)) := by rw [← hH3, upd_ne xl.symm]; exact upd_same
    have tp3 : Tups H3 ts ms := tp.imp fun t xs e => f3 _ _ e fun z => by
      rw [z, hx] at e
      cases e
    have tl := tp.len
    refine ⟨_, rfl, b, rfl, ⟨_, sq bx hb⟩, fun D hD => dc_it (walk_list (K := K) (a := b) (xs := ts.map V.ref)) (fun i J => J D = some (.dK ((realOf ps (ms.take i)).map kvP)) ∧ ∀ c o, H3 c = some o → J c = some o) ⟨upd_same, same_new hD⟩
      (fun i J _ h => (show Same H3 J from h.2).seq (sq bx hb)) ?_ ?_⟩
    · rintro i y J J' hi ⟨hJ, sJ⟩ ⟨rfl, hy⟩
      have hi' : i < ts.length := by simpa using hi
      rw [List.getElem?_map, List.getElem?_eq_getElem hi'] at hy
      obtain rfl := Option.some.inj hy
      obtain ⟨m, hm, hm2⟩ := (tp3.same (show Same H3 J' from sJ)).get (List.getElem?_eq_getElem hi')
      have et : ms.take (i + 1) = ms.take i ++ [m] := by rw [List.take_add_one, hm]; rfl
      refine ⟨_, _, rfl, .inl (.inl hm2), rfl, _, _, rfl, _, [], rfl, rfl, rfl, ?_⟩
      have hb' := sq ax ha
      have ha' : SqL K J' a (ps.map V.int) := (show Same H3 J' from sJ).seq hb'
      refine ⟨_, rfl, _, rfl, _, rfl, _, rfl, a, _, rfl, .inl ha', _, _, rfl, rfl, (by rw [List.length_map]; omega), a, _, _, _, rfl, rfl, ha', (by rw [List.length_map]; exact atI_pace l0), rfl, ?_⟩
      have ei : decide (V.int m.2 = V.int (paceOf ps m.1)) = decide (m.2 = paceOf ps m.1) := by
        rw [decide_eq_decide]
        exact ⟨fun e => by injection e, fun e => by rw [e]⟩
      rw [ei]
      by_cases hc : m.2 = paceOf ps m.1
      · rw [decide_eq_true hc]
        refine ⟨false, rfl, ?_, sJ⟩
        rw [et]
        unfold realOf
        rw [List.filter_append]
        have : List.filter (fun m => decide (m.2 ≠ paceOf ps m.1)) [m] = [] := by simp [hc]
        rw [this, List.append_nil]
        exact hJ
      · rw [decide_eq_false hc]
        have hr' : ((realOf ps (ms.take i)).map kvP).length < sizeLine := by
          rw [List.length_map]
          refine small1000 (Nat.le_trans (List.length_filter_le _ _) ?_)
          rw [List.length_take]
          have := fit.len
          omega
        have hv : valV ((realOf ps (ms.take i)).map kvP) (Sum.inl m.1 : Key) = none := by
          rw [valV_kvP, List.find?_eq_none.mpr]
          · rfl
          · intro m' hm' e'
            have h1 := (List.mem_filter.mp hm').1
            obtain ⟨j, hj, e⟩ := List.getElem_of_mem h1
            rw [List.length_take] at hj
            rw [List.getElem_take] at e
            have hi2 : i < ms.length := by omega
            have hlt := List.pairwise_iff_getElem.mp fit.asc j i (by omega) hi2 (by omega)
            rw [List.getElem?_eq_getElem hi2] at hm
            have := Option.some.inj hm
            have e3 : m'.1 = m.1 := by simpa using e'
            rw [e, this, e3] at hlt
            omega
        refine ⟨true, rfl, _, rfl, _, rfl, _, Sum.inl m.1, rfl, hJ, hr', ?_, fun c o e => ?_⟩
        · rw [upd_same, putK_new _ hv, et]
          unfold realOf
          rw [List.filter_append]
          have : List.filter (fun m => decide (m.2 ≠ paceOf ps m.1)) [m] = [m] := by simp [hc]
          rw [this, List.map_append]
          rfl
        · rw [upd_ne (ne_of_none e hD)]
          exact sJ c o e
    · rintro J ⟨hJ, sJ⟩
      rw [List.length_map, tl, List.take_length] at hJ
      refine ⟨_, rfl, x, C, dx, _, rfl, sJ _ _ hx3, Z.cl, Z.nC, (by show 1 < 1000; decide), ?_⟩
      have xD : x ≠ D := ne_of_none hx3 hD
      refine k _ l D ⟨⟨dx, upd_same⟩, ?_, ?_⟩ (s12.free hl) ?_ fun c o e g => ?_
      · rw [upd_ne xl.symm]
        exact sJ _ _ hl3
      · rw [upd_ne xD.symm]
        exact hJ
      · cases e : H D with
        | none => rfl
        | some o =>
          rw [f3 D o e (fun z => xD z.symm)] at hD
          cases hD
      · rw [upd_ne g]
        exact sJ _ _ (f3 c o e g)
end

/-! ### what a calendar tells: week, speeds, changes -/
def spWeek (C : Addr) : Sp := fun vs H Q _ => ∃ (x l d : Addr) (ps : List Int) (ms : List (Int × Int)), vs = [.ref x] ∧ CalAt C H x l d ps ms ∧ Q (.int (ps.length : Nat)) H
def spSpeeds (C : Addr) : Sp := fun vs H Q _ => ∃ (x l d : Addr) (ps : List Int) (ms : List (Int × Int)), vs = [.ref x] ∧ CalAt C H x l d ps ms ∧
  ∀ q, H q = none → Q (.ref q) (upd H q (.lst (ps.map V.int)))
def spChanges (C : Addr) : Sp := fun vs H Q _ => ∃ (x l d : Addr) (ps : List Int) (ms : List (Int × Int)), vs = [.ref x] ∧ CalAt C H x l d ps ms ∧
  ∀ (H' : Hp) (q : Addr) (ts : List Addr), Same H H' → H q = none → (∀ t ∈ ts, H t = none) → q ∉ ts → H' q = some (.lst (ts.map V.ref)) → Tups H' ts ms → Q (.ref q) H'
theorem tups_paired {H : Hp} : ∀ {ts : List Addr} {ms : List (Int × Int)}, Paired (fun (t : Addr) (q : Key × V) => H t = some (.tup [kV q.1, q.2])) ts (ms.map kvP) → Tups H ts ms
  | [], [], _ => trivial
  | [], m :: ms, h => nomatch h
  | t :: ts, [], h => nomatch h
  | t :: ts, m :: ms, h => by
    have h' : Paired (fun (t : Addr) (q : Key × V) => H t = some (.tup [kV q.1, q.2])) (t :: ts) (kvP m :: ms.map kvP) := h
    cases h' with
    | cons a b => exact ⟨a, tups_paired b⟩
section
variable {P : Program} {w : World} {K : PySem.W.Frag} {mg : Str → Option Value} {base : Heap}
theorem scGet1 : FnScope ["self"] ["self"] (defScope sWeek) := ⟨rfl, rfl, rfl, by decide +kernel, rfl, by decide +kernel, by decide +kernel⟩
theorem scGet2 : FnScope ["self"] ["self"] (defScope sSpeeds) := ⟨rfl, rfl, rfl, by decide +kernel, rfl, by decide +kernel, by decide +kernel⟩
theorem scGet3 : FnScope ["self"] ["self"] (defScope sChanges) := ⟨rfl, rfl, rfl, by decide +kernel, rfl, by decide +kernel, by decide +kernel⟩
theorem ok_week {f C : Addr} {fd : FuncData} (F : Fun K "week" "Calendar.week" sWeek f fd) (Z : Cal K mg C) (T : Blt mg) : FnOk P w K mg base CX0 1 f fd ["self"] (spWeek C) := by
  refine F.ok scGet1 (fun vs H Q E h => ?_) (fun cdv A outer s H vs Q E hr h => ?_)
  · obtain ⟨x, l, d, ps, ms, rfl, _⟩ := h
    rfl
  · obtain ⟨x, l, d, ps, ms, rfl, ⟨⟨dx, hx⟩, hl, hd⟩, k⟩ := h
    refine ⟨_, pss_one (ps_ret (pe_callB call_len_seq (by rfl) T.len PySem.boot_len (pa_cons (pe_fld (pv 0) rfl) pa_nil))), ?_⟩
    refine ⟨_, rfl, x, C, dx, _, _, rfl, hx, Z.cl, Z.nS, calF_s l d, l, _, rfl, .inl (SqL.of hl), ?_⟩
    rw [List.length_map]
    exact k
theorem ok_speeds {f C : Addr} {fd : FuncData} (F : Fun K "speeds" "Calendar.speeds" sSpeeds f fd) (Z : Cal K mg C) (T : Blt mg) : FnOk P w K mg base CX0 1 f fd ["self"] (spSpeeds C) := by
  refine F.ok scGet2 (fun vs H Q E h => ?_) (fun cdv A outer s H vs Q E hr h => ?_)
  · obtain ⟨x, l, d, ps, ms, rfl, _⟩ := h
    rfl
  · obtain ⟨x, l, d, ps, ms, rfl, ⟨⟨dx, hx⟩, hl, hd⟩, k⟩ := h
    refine ⟨_, pss_one (ps_ret (pe_callTy call_list_of (by rfl) T.list (by decide +kernel) (pa_cons (pe_fld (pv 0) rfl) pa_nil))), ?_⟩
    exact ⟨_, rfl, x, C, dx, _, _, rfl, hx, Z.cl, Z.nS, calF_s l d, l, _, rfl, .inl (SqL.of hl), k⟩
theorem ok_changes {f C : Addr} {fd : FuncData} (F : Fun K "changes" "Calendar.changes" sChanges f fd) (Z : Cal K mg C) (T : Blt mg) : FnOk P w K mg base CX0 1 f fd ["self"] (spChanges C) := by
  refine F.ok scGet3 (fun vs H Q E h => ?_) (fun cdv A outer s H vs Q E hr h => ?_)
  · obtain ⟨x, l, d, ps, ms, rfl, _⟩ := h
    rfl
  · obtain ⟨x, l, d, ps, ms, rfl, ⟨⟨dx, hx⟩, hl, hd⟩, k⟩ := h
    refine ⟨_, pss_one (ps_ret (LiI.pe_listItems rfl (pe_fld (pv 0) rfl) (by rfl) T.list (by decide +kernel))), ?_⟩
    exact ⟨_, rfl, x, C, dx, _, _, rfl, hx, Z.cl, Z.nC, calF_c l d, d, _, rfl, hd, fun H' q ts s1 nq nt qt hq hp => k H' q ts s1 nq nt qt hq (tups_paired hp)⟩
end
/-- a property of the calendars, by its getter -/
structure Pp (P : Program) (w : World) (K : PySem.W.Frag) (mg : Str → Option Value) (base : Heap) (C : Addr) (x : Str) (sp : Sp) (p g : Addr) (fd : FuncData) : Prop where
  of : PropOf K C x p g
  ok : FnOk P w K mg base CX0 1 g fd ["self"] sp
  bi : Binds K fd ["self"] []

/-! ### data whose repr is short -/
structure Rp (d : PyData) (n k : Nat) : Prop where
  lv : d.leavesShort 42 = true
  sh : d.showable = true
  nd : d.hasDict = false
  dp : d.depth ≤ k
  bk : d.bulk ≤ n
structure RpA (xs : List PyData) (n k : Nat) : Prop where
  lv : PyData.leavesShortAll 42 xs = true
  sh : PyData.showableAll xs = true
  nd : PyData.hasDictAll xs = false
  dp : PyData.depthAll xs ≤ k
  bk : PyData.bulkAll xs ≤ n
theorem Rp.int {i : Int} (h0 : -10 ^ 40 < i) (h1 : i < 10 ^ 40) : Rp (.int i) 0 0 := by
  have h : i.natAbs < 10 ^ 40 := by omega
  refine ⟨?_, ?_, rfl, Nat.le_refl _, Nat.le_refl _⟩
  · refine decide_eq_true ?_
    have e := int_text_length_le10 (k := 40) (by decide) h
    show (Str.ofString (toString i)).length ≤ 42
    rw [PySem.ofString_length]
    omega
  · refine decide_eq_true ?_
    by_cases z : i.natAbs = 0
    · rw [z]
      decide
    · have : i.natAbs < 2 ^ 1920 := Nat.lt_trans h (by decide)
      exact (Nat.log2_lt z).mpr this
theorem Rp.bool (b : Bool) : Rp (.bool b) 0 0 := ⟨rfl, rfl, rfl, Nat.le_refl _, Nat.le_refl _⟩
theorem Rp.none : Rp .none 0 0 := ⟨rfl, rfl, rfl, Nat.le_refl _, Nat.le_refl _⟩
theorem Rp.mono {d : PyData} {n k n' k' : Nat} (h : Rp d n k) (g1 : n ≤ n') (g2 : k ≤ k') : Rp d n' k' := ⟨h.lv, h.sh, h.nd, Nat.le_trans h.dp g2, Nat.le_trans h.bk g1⟩
theorem RpA.mono {d : List PyData} {n k n' k' : Nat} (h : RpA d n k) (g1 : n ≤ n') (g2 : k ≤ k') : RpA d n' k' := ⟨h.lv, h.sh, h.nd, Nat.le_trans h.dp g2, Nat.le_trans h.bk g1⟩
theorem Rp.list {xs : List PyData} {n k : Nat} (h : RpA xs n k) : Rp (.list xs) n (k + 1) :=
  ⟨by simp only [PyData.leavesShort, h.lv], by simp only [PyData.showable, h.sh], by simp only [PyData.hasDict, h.nd], by simp only [PyData.depth]; have := h.dp; omega, by simp only [PyData.bulk]; exact h.bk⟩
theorem Rp.tup {xs : List PyData} {n k : Nat} (h : RpA xs n k) : Rp (.tuple xs) n (k + 1) :=
  ⟨by simp only [PyData.leavesShort, h.lv], by simp only [PyData.showable, h.sh], by simp only [PyData.hasDict, h.nd], by simp only [PyData.depth]; have := h.dp; omega, by simp only [PyData.bulk]; exact h.bk⟩
theorem RpA.nil : RpA [] 0 0 := ⟨rfl, rfl, rfl, Nat.le_refl _, Nat.le_refl _⟩
theorem RpA.cons {d : PyData} {xs : List PyData} {n k m j : Nat} (h : Rp d n k) (g : RpA xs m j) : RpA (d :: xs) (n + 1 + m) (k + j) :=
  ⟨by simp only [PyData.leavesShortAll, h.lv, g.lv, Bool.and_self], by simp only [PyData.showableAll, h.sh, g.sh, Bool.and_self], by simp only [PyData.hasDictAll, h.nd, g.nd, Bool.or_self],
    by simp only [PyData.depthAll]; have := h.dp; have := g.dp; omega, by simp only [PyData.bulkAll]; have := h.bk; have := g.bk; omega⟩
theorem RpA.all {n k : Nat} : ∀ {xs : List PyData}, (∀ d ∈ xs, Rp d n k) → RpA xs (xs.length * (n + 1)) k
  | [], _ => RpA.nil.mono (Nat.zero_le _) (Nat.zero_le _)
  | d :: xs, h => by
    have h1 := h d List.mem_cons_self
    have h2 := RpA.all (xs := xs) fun e he => h e (List.mem_cons_of_mem _ he)
    refine ⟨by simp only [PyData.leavesShortAll, h1.lv, h2.lv, Bool.and_self], by simp only [PyData.showableAll, h1.sh, h2.sh, Bool.and_self], by simp only [PyData.hasDictAll, h1.nd, h2.nd, Bool.or_self], ?_, ?_⟩
    · simp only [PyData.depthAll]
      have := h1.dp
      have := h2.dp
      omega
    · simp only [PyData.bulkAll]
      have := h1.bk
      have := h2.bk
      rw [List.length_cons, Nat.add_mul]
      omega
theorem Rp.fits {d : PyData} {n k : Nat} (h : Rp d n k) (g : n ≤ 300000) : d.shown.length ≤ sizeLine := by
  have e := PyData.shown_le_bulk 42 (by decide) d h.lv
  have := h.bk
  rw [sizeLine_eq]
  omega
def rRep2 (K : PySem.W.Frag) : List V → Hp → VK → Prop := fun xs H Q => ∃ (a : Addr) (d : PyData) (n k : Nat), xs = [.ref a] ∧ Dp K H (.ref a) d ∧ Rp d n k ∧ k ≤ 60 ∧ n ≤ 300000 ∧ Q (.str d.shown) H
theorem call_rep2 {X : Cx} (hgd : X.A.guards = some []) (hu : X.A.units + 64 < cLine) : CallR X (.builtin "repr") (rRep2 X.K) := by
  intro pins s σ H xs us Q I r h
  obtain ⟨a, d, n, k, e, hd, hr, hk, hn, q⟩ := h
  exact call_repr hgd hu pins s σ H xs us Q I r ⟨a, d, e, hd, hr.sh, hr.nd, Nat.le_trans hr.dp hk, hr.fits hn, q⟩
/-! ### which data stand where -/
def dInts (xs : List Int) : PyData := .list (xs.map PyData.int)
def dMarks (ms : List (Int × Int)) : PyData := .list (ms.map fun m => PyData.tuple [.int m.1, .int m.2])
theorem dpAll_ints {K : PySem.W.Frag} {H : Hp} : ∀ xs : List Int, DpAll K H (xs.map V.int) (xs.map PyData.int)
  | [] => .nil
  | x :: xs => .cons (.int x) (dpAll_ints xs)
theorem dp_ints {K : PySem.W.Frag} {H : Hp} {a : Addr} {xs : List Int} (h : SqL K H a (xs.map V.int)) : Dp K H (.ref a) (dInts xs) := .lst h (dpAll_ints xs)
theorem dpAll_marks {K : PySem.W.Frag} {H : Hp} : ∀ {ts : List Addr} {ms : List (Int × Int)}, Tups H ts ms → DpAll K H (ts.map V.ref) (ms.map fun m => PyData.tuple [.int m.1, .int m.2])
  | [], [], _ => .nil
  | _ :: _, m :: _, h => .cons (.tup (SqT.of h.1) (.cons (.int m.1) (.cons (.int m.2) .nil))) (dpAll_marks h.2)
theorem dp_marks {K : PySem.W.Frag} {H : Hp} {a : Addr} {ts : List Addr} {ms : List (Int × Int)} (h : SqL K H a (ts.map V.ref)) (g : Tups H ts ms) : Dp K H (.ref a) (dMarks ms) := .lst h (dpAll_marks g)
theorem rp_ints {xs : List Int} (h : ∀ v ∈ xs, -10 ^ 40 < v ∧ v < 10 ^ 40) : Rp (dInts xs) xs.length 1 := by
  have := RpA.all (xs := xs.map PyData.int) (n := 0) (k := 0) fun d hd => by
    obtain ⟨v, hv, rfl⟩ := List.mem_map.mp hd
    exact Rp.int (h v hv).1 (h v hv).2
  refine (Rp.list this).mono ?_ (Nat.le_refl _)
  rw [List.length_map]
  omega
theorem rp_marks {ms : List (Int × Int)} (h : ∀ m ∈ ms, -10 ^ 40 < m.1 ∧ m.1 < 10 ^ 40 ∧ -10 ^ 40 < m.2 ∧ m.2 < 10 ^ 40) : Rp (dMarks ms) (ms.length * 3) 2 := by
  have := RpA.all (xs := ms.map fun m => PyData.tuple [.int m.1, .int m.2]) (n := 2) (k := 1) fun d hd => by
    obtain ⟨m, hm, rfl⟩ := List.mem_map.mp hd
    have g := h m hm
    exact (Rp.tup (.cons (Rp.int g.1 g.2.1) (.cons (Rp.int g.2.2.1 g.2.2.2) .nil))).mono (by omega) (by omega)
  refine (Rp.list this).mono ?_ (Nat.le_refl _)
  rw [List.length_map]
  omega

/-! ### operators of own classes -/
section
variable {X : Cx} {k : Nat} {f C : Addr} {fd : FuncData} {ps : List Str} {sp : Sp}
theorem run_in1 {pins : List (Addr × Obj)} {σ : L2.St} {H : Hp} {s : Shared} {Q : VK} {us : List Value} {vs : List V} (F : FnOk X.prog X.w X.K X.mg X.base CX0 k f fd ps sp) (hr : Room (k + 1) X.A)
    (hb : Binds X.K fd ps []) (I : Inv X pins σ H s) (r : Vals vs us) (h : sp vs H Q E0) : wpAny (model X.prog X.w) X.A.in1 (call (.ref f) us) (EP X pins σ Q) X.xe s := by
  have hl : us.length = ps.length := r.length.symm.trans (F.len _ _ _ _ h)
  have bi := hb s us I.kIn (by rw [List.append_nil]; exact hl)
  rw [List.append_nil] at bi
  refine wpAny_call (codeAny_mono (F.run X.A.in1 X.stack s H ⟨us, []⟩ us vs Q E0 hr.in1 I.env0.in1 bi r h) fun res s2 hq => ?_)
  rcases res with er | fl
  · exact False.elim hq
  · rcases fl with _ | _ | _ | u
    iterate 3 exact False.elim hq
    exact I.after hq
theorem run_here {pins : List (Addr × Obj)} {σ : L2.St} {H : Hp} {s : Shared} {Q : VK} {us : List Value} {vs : List V} (F : FnOk X.prog X.w X.K X.mg X.base CX0 k f fd ps sp) (hr : Room k X.A)
    (hb : Binds X.K fd ps []) (I : Inv X pins σ H s) (r : Vals vs us) (h : sp vs H Q E0) : wpAny (model X.prog X.w) X.A (call (.ref f) us) (EP X pins σ Q) X.xe s := by
  have q : sp (vs ++ []) H Q E0 := by rw [List.append_nil]; exact h
  exact run_fn F hr hb .nil pass0 I r q
/-- what stands behind x[i], i in x of an own class -/
structure Own (K : PySem.W.Frag) (C : Addr) (m : Str) (f : Addr) : Prop where
  at_ : PySem.W.findIn K (.ref C) m = some (some (.ref f))
  fn : PySem.W.isFn K (.ref f) = true
  fi : PySem.W.fnIn K f = true
def rOwn (C : Addr) (sp : Sp) : R2 := fun x y H Q => ∃ a dx fs, x = .ref a ∧ H a = some (.ins C dx fs) ∧ sp [.ref a, y] H Q E0
theorem ix_own (o : Own X.K C "__getitem__" f) (F : FnOk X.prog X.w X.K X.mg X.base CX0 k f fd ps sp) (hr : Room (k + 1) X.A) (hb : Binds X.K fd ps [])
    {a b : Expr} {ta tb : TE} {pos : Pos} (ha : PE X a ta) (hi : PE X b tb)
    (hsl : ∀ (x : Addr) (i : Value), subscripted b true (.ref x) i = runValue (.builtin "lifetime.subscript" ⟨[.ref x, i], []⟩) := by intro _ _; with_unfolding_all rfl) :
    PE X (.Subscript a b pos) (tOp (rOwn C sp) ta tb) := by
  refine ⟨fun pins s σ H Q I h => ?_⟩
  refine Subscript_ (binT ha hi I h fun v u s2 x y H2 I2 rx ry q => ?_)
  obtain ⟨p, dx, fs, rfl, ea, hq⟩ := q
  obtain rfl : v = Value.ref p := rx
  obtain ⟨m, fr⟩ := I2.fr
  obtain ⟨mA, O, _⟩ := ins_get I2.hok ea
  obtain ⟨od, J, _⟩ := O.look
  exact PySem.W.sub_K fr I2.ok.mod.kin J o.at_ o.fi o.fn (run_in1 F hr hb I2 (.cons (show L2.RelV (V.ref p) (Value.ref p) from rfl) (.cons ry .nil)) hq) (hsl p u)
def rIn (C : Addr) (sp : Sp) : R2 := fun y x H Q => ∃ a dx fs, x = .ref a ∧ H a = some (.ins C dx fs) ∧ sp [.ref a, y] H (fun r H' => ∃ b, r = .bl b ∧ Q (.bl b) H') E0
theorem op_inOwn (o : Own X.K C "__contains__" f) (F : FnOk X.prog X.w X.K X.mg X.base CX0 k f fd ps sp) (hr : Room k X.A) (hb : Binds X.K fd ps []) : OpR X (compareOp .In) (rIn C sp) := by
  intro pins s σ H y x v u Q I ry rx h
  obtain ⟨p, dx, fs, rfl, ea, hq⟩ := h
  obtain rfl : u = Value.ref p := rx
  obtain ⟨m, fr⟩ := I.fr
  obtain ⟨mA, O, _⟩ := ins_get I.hok ea
  obtain ⟨od, J, _⟩ := O.look
  refine PySem.W.in_K fr I.ok.mod.kin J o.at_ o.fn (thn (run_here F hr hb I (.cons (show L2.RelV (V.ref p) (Value.ref p) from rfl) (.cons ry .nil)) hq) fun r s2 ⟨z, H2, I2, rz, b, eb, q2⟩ => ?_)
  subst eb
  obtain rfl : r = Value.bool b := rz
  exact wpAny_truthy_bool ⟨.bl b, H2, I2, rfl, q2⟩
end
/-- the speed that a calendar has at a moment -/
def speedAt (ps : List Int) (ms : List (Int × Int)) (t : Int) : Int := ((ms.find? fun m => decide (m.1 = t)).map fun m => m.2).getD (paceOf ps t)
def spGet (C : Addr) : Sp := fun vs H Q _ => ∃ (x l d : Addr) (ps : List Int) (ms : List (Int × Int)) (t : Int), vs = [.ref x, .int t] ∧ CalAt C H x l d ps ms ∧ 0 < ps.length ∧ Q (.int (speedAt ps ms t)) H
def spHas (C : Addr) : Sp := fun vs H Q _ => ∃ (x l d : Addr) (ps : List Int) (ms : List (Int × Int)) (t : Int), vs = [.ref x, .int t] ∧ CalAt C H x l d ps ms ∧ 0 < ps.length ∧ Q (.bl (decide (speedAt ps ms t ≠ 0))) H
section
variable {P : Program} {w : World} {K : PySem.W.Frag} {mg : Str → Option Value} {base : Heap}
theorem scGet : FnScope ["self", "at"] ["self", "at"] (defScope sGet) := ⟨rfl, rfl, rfl, by decide +kernel, rfl, by decide +kernel, by decide +kernel⟩
theorem ok_get {f C : Addr} {fd : FuncData} (F : Fun K "__getitem__" "Calendar.__getitem__" sGet f fd) (Z : Cal K mg C) (T : Blt mg) : FnOk P w K mg base CX0 1 f fd ["self", "at"] (spGet C) := by
  refine F.ok scGet (fun vs H Q E h => ?_) (fun cdv A outer s H vs Q E hr h => ?_)
  · obtain ⟨x, l, d, ps, ms, t, rfl, _⟩ := h
    rfl
  · obtain ⟨x, l, d, ps, ms, t, rfl, ⟨⟨dx, hx⟩, hl, hd⟩, l0, k⟩ := h
    have hu := hu_of hr
    refine ⟨_, pss_one (ps_ret (pe_dget2 hu (pe_fld (pv 0) rfl) (pv 1) (pe_ix ix_list (pe_fld (pv 0) rfl) (pe_op op_mod (pv 1) (pe_callB call_len_seq (by rfl) T.len PySem.boot_len (pa_cons (pe_fld (pv 0) rfl) pa_nil))) (fun _ _ => rfl)) ⟨rfl, rfl, rfl, rfl⟩)), ?_⟩
    have hz : (((ps.map V.int).length : Nat) : Int) = ps.length := by rw [List.length_map]
    refine ⟨_, rfl, x, C, dx, _, _, rfl, hx, Z.cl, Z.nC, calF_c l d, d, rfl, .inl ⟨_, .inl hd⟩, _, rfl, _, rfl, x, C, dx, _, _, rfl, hx, Z.cl, Z.nS, calF_s l d, _, rfl, _, rfl, x, C, dx, _, _, rfl, hx, Z.cl, Z.nS, calF_s l d, l, _, rfl, .inl (SqL.of hl), _, _, rfl, rfl, ?_, l, _, _, .int (paceOf ps t), rfl, rfl, SqL.of hl, ?_, ?_⟩
    · rw [hz]
      omega
    · rw [hz]
      exact atI_pace l0
    · refine ⟨_, DGet.k (k := Sum.inl t) hd, ?_⟩
      rw [valV_kvP]
      unfold speedAt at k
      cases e : ms.find? fun m => decide (m.1 = t) with
      | none =>
        rw [e] at k
        exact k
      | some m =>
        rw [e] at k
        exact k
theorem scHas : FnScope ["self", "x"] ["self", "x"] (defScope sHas) := ⟨rfl, rfl, rfl, by decide +kernel, rfl, by decide +kernel, by decide +kernel⟩
theorem ok_has {f g C : Addr} {fd gd : FuncData} (F : Fun K "__contains__" "Calendar.__contains__" sHas f fd) (o : Own K C "__getitem__" g) (G : FnOk P w K mg base CX0 1 g gd ["self", "at"] (spGet C)) (bG : Binds K gd ["self", "at"] []) :
    FnOk P w K mg base CX0 3 f fd ["self", "x"] (spHas C) := by
  refine F.ok scHas (fun vs H Q E h => ?_) (fun cdv A outer s H vs Q E hr h => ?_)
  · obtain ⟨x, l, d, ps, ms, t, rfl, _⟩ := h
    rfl
  · obtain ⟨x, l, d, ps, ms, t, rfl, cal, l0, k⟩ := h
    obtain ⟨dx, hx⟩ := cal.ob
    refine ⟨_, pss_one (ps_ret (pe_cmpR op_ne (ix_own o G hr bG (pv 0) (pv 1)) pe_int (nomark _))), ?_⟩
    refine ⟨_, rfl, _, rfl, x, dx, _, rfl, hx, ⟨x, l, d, ps, ms, t, rfl, cal, l0, rfl, ?_⟩⟩
    have e : (!decide (V.int (speedAt ps ms t) = V.int 0)) = decide (speedAt ps ms t ≠ 0) := by
      by_cases z : speedAt ps ms t = 0
      · rw [z]
        rfl
      · have z2 : ¬ V.int (speedAt ps ms t) = V.int 0 := fun q => z (by injection q)
        rw [decide_eq_false z2, decide_eq_true z]
        rfl
    rw [e]
    exact k
end

/-! ### a law's own speed at a moment -/
theorem find_at {p : Int × Int → Bool} : ∀ {ms : List (Int × Int)} {i : Nat} {m : Int × Int}, ms[i]? = some m → (ms.take i).find? p = none → p m = true → ms.find? p = some m
  | [], i, m, h, _, _ => by simp at h
  | a :: ms, 0, m, h, _, g => by
    obtain rfl := Option.some.inj h
    rw [List.find?_cons, g]
  | a :: ms, i + 1, m, h, f, g => by
    rw [List.take_succ_cons, List.find?_cons] at f
    rw [List.find?_cons]
    cases e : p a with
    | true =>
      rw [e] at f
      cases f
    | false =>
      rw [e] at f
      exact find_at (ms := ms) (i := i) h f g
theorem find_more {p : Int × Int → Bool} {ms : List (Int × Int)} {i : Nat} {m : Int × Int} (h : ms[i]? = some m) (f : (ms.take i).find? p = none) (g : p m = false) : (ms.take (i + 1)).find? p = none := by
  rw [List.take_add_one, h, List.find?_append, f]
  show (List.find? p [m]) = none
  rw [List.find?_cons, g]
  rfl
theorem speed_hit {ps : List Int} {ms : List (Int × Int)} {t : Int} {m : Int × Int} (h : (ms.find? fun m => decide (m.1 = t)) = some m) : speedAt ps ms t = m.2 := by
  unfold speedAt
  rw [h]
  rfl
theorem speed_miss {ps : List Int} {ms : List (Int × Int)} {t : Int} (h : (ms.find? fun m => decide (m.1 = t)) = none) : speedAt ps ms t = paceOf ps t := by
  unfold speedAt
  rw [h]
  rfl
theorem speed_real {ps : List Int} : ∀ {ms : List (Int × Int)} {t : Int}, (ms.Pairwise fun a b => a.1 < b.1) → speedAt ps (realOf ps ms) t = speedAt ps ms t
  | [], t, _ => rfl
  | m :: ms, t, h => by
    have h2 := List.pairwise_cons.mp h
    have ih := speed_real (ps := ps) (ms := ms) (t := t) h2.2
    by_cases e : m.1 = t
    · have hit : ((m :: ms).find? fun m => decide (m.1 = t)) = some m := by rw [List.find?_cons, decide_eq_true e]
      rw [speed_hit hit]
      by_cases c : m.2 = paceOf ps m.1
      · have er : realOf ps (m :: ms) = realOf ps ms := by unfold realOf; simp [c]
        rw [er, ih, speed_miss, c, e]
        refine List.find?_eq_none.mpr fun m' hm' e' => ?_
        have := h2.1 m' hm'
        have e2 : m'.1 = t := by simpa using e'
        omega
      · have er : realOf ps (m :: ms) = m :: realOf ps ms := by unfold realOf; simp [c]
        rw [er]
        exact speed_hit (by rw [List.find?_cons, decide_eq_true e])
    · have miss : ∀ l : List (Int × Int), speedAt ps (m :: l) t = speedAt ps l t := fun l => by
        unfold speedAt
        rw [List.find?_cons, decide_eq_false e]
      rw [miss]
      by_cases c : m.2 = paceOf ps m.1
      · have er : realOf ps (m :: ms) = realOf ps ms := by unfold realOf; simp [c]
        rw [er]
        exact ih
      · have er : realOf ps (m :: ms) = m :: realOf ps ms := by unfold realOf; simp [c]
        rw [er, miss]
        exact ih
theorem pace_in {ps : List Int} {t : Int} (h : 0 < ps.length) : paceOf ps t ∈ ps := by
  have h0 := Int.emod_nonneg t (show (ps.length : Int) ≠ 0 by omega)
  have h1 := Int.emod_lt_of_pos t (show (0 : Int) < ps.length by omega)
  obtain ⟨v, hv, e, _⟩ := atI_ints h0 h1
  unfold paceOf
  rw [List.getD_eq_getElem?_getD, e]
  exact hv
theorem speed_lo {ps : List Int} {ms : List (Int × Int)} (hp : Paces ps) (fit : Fit ms) (t : Int) : 0 ≤ speedAt ps ms t ∧ speedAt ps ms t ≤ 3 := by
  cases e : ms.find? fun m => decide (m.1 = t) with
  | none =>
    rw [speed_miss e]
    exact hp.lo _ (pace_in hp.len0)
  | some m =>
    rw [speed_hit e]
    exact fit.val m (List.mem_of_find?_eq_some e)
def spPace : Sp := fun vs H Q _ => ∃ (a b : Addr) (ps : List Int) (ts : List Addr) (ms : List (Int × Int)) (t : Int), vs = [.ref a, .ref b, .int t] ∧ H a = some (.lst (ps.map V.int)) ∧ H b = some (.lst (ts.map V.ref)) ∧ Tups H ts ms ∧ 0 < ps.length ∧
  Q (.int (speedAt ps ms t)) H
section
variable {P : Program} {w : World} {K : PySem.W.Frag} {mg : Str → Option Value} {base : Heap}
theorem scPace : FnScope ["paces", "marks", "at", "spot", "pace"] ["paces", "marks", "at"] (defScope sPace) := ⟨rfl, rfl, rfl, by decide +kernel, rfl, by decide +kernel, by decide +kernel⟩
theorem ok_pace {f : Addr} {fd : FuncData} (F : Fun K "_law_pace" "_law_pace" sPace f fd) (T : Blt mg) : FnOk P w K mg base CX0 1 f fd ["paces", "marks", "at"] spPace := by
  refine F.ok scPace (fun vs H Q E h => ?_) (fun cdv A outer s H vs Q E hr h => ?_)
  · obtain ⟨a, b, ps, ts, ms, t, rfl, _⟩ := h
    rfl
  · obtain ⟨a, b, ps, ts, ms, t, rfl, ha, hb, tp, l0, k⟩ := h
    refine ⟨_, pss_cons (ps_for PassesOwn.never rfl (pi_list (pv 1)) (pg_tup rfl (pgs_cons (pg_name (i := 3) scPace.nd rfl (.inl rfl)) (pgs_cons (pg_name (i := 4) scPace.nd rfl (.inl rfl)) pgs_nil)))
        (pss_one (ps_if (pt_cmpR op_eq (pv 3) (pv 2) (nomark _)) (pss_one (ps_ret (pv 4))) pss_nil)))
      (pss_one (ps_ret (pe_ix ix_list (pv 0) (pe_op op_mod (pe_callTy call_int1 (by rfl) T.int (by decide +kernel) (pa_cons (pv 2) pa_nil)) (pe_callB call_len_seq (by rfl) T.len PySem.boot_len (pa_cons (pv 0) pa_nil))) (fun _ _ => rfl)))), ?_⟩
    have tl := tp.len
    refine ⟨_, rfl, b, rfl, ⟨_, SqL.of hb⟩, for_list (K := K) (a := b) (xs := ts.map V.ref) (fun i σ J => J = H ∧ (∃ y3 y4 : Option V, σ = [some (.ref a), some (.ref b), some (.int t), y3, y4]) ∧ ((ms.take i).find? fun m => decide (m.1 = t)) = none)
      ⟨rfl, ⟨none, none, rfl⟩, rfl⟩ (fun i σ J _ h => by rw [h.1]; exact SqL.of hb) ?_ ?_⟩
    · rintro i y σ J hi ⟨rfl, ⟨y3, y4, rfl⟩, hf⟩
      have hi' : i < ts.length := by
        have := (List.getElem?_eq_some_iff.mp hi).1
        simpa using this
      rw [List.getElem?_map, List.getElem?_eq_getElem hi'] at hi
      obtain rfl := Option.some.inj hi
      obtain ⟨m, hm, hm2⟩ := tp.get (List.getElem?_eq_getElem hi')
      refine ⟨_, _, rfl, .inl (.inl hm2), rfl, _, _, rfl, _, [], rfl, rfl, _, rfl, _, rfl, rfl, _, rfl, ite2 (fun g => ?_) (fun g => ?_)⟩
      · have e : m.1 = t := by
          have := of_decide_eq_true g
          injection this
        refine ⟨_, rfl, ?_⟩
        rw [speed_hit (find_at hm hf (decide_eq_true e))] at k
        exact k
      · have e : ¬ m.1 = t := fun q => g (decide_eq_true (by rw [q]))
        exact ⟨rfl, ⟨_, _, rfl⟩, find_more hm hf (decide_eq_false e)⟩
    · rintro σ J ⟨rfl, ⟨y3, y4, rfl⟩, hf⟩
      rw [List.length_map, tl, List.take_length] at hf
      have hz : (((ps.map V.int).length : Nat) : Int) = ps.length := by rw [List.length_map]
      rw [speed_miss hf] at k
      refine ⟨_, rfl, _, rfl, .inl ⟨_, rfl, _, rfl, a, _, rfl, .inl (SqL.of ha), _, _, rfl, rfl, ?_, a, _, _, .int (paceOf ps t), rfl, rfl, SqL.of ha, ?_, k⟩⟩
      · rw [hz]
        omega
      · rw [hz]
        exact atI_pace l0
end

/-! ### the law's own loop -/
def Scr (K : PySem.W.Frag) (H : Hp) (a : Addr) (xs : List V) : Prop := (∃ o, H a = some (.frz o (.lst xs))) ∨ ∀ J : Hp, SqL K J a xs
theorem Scr.seq {K : PySem.W.Frag} {H : Hp} {a : Addr} {xs : List V} (h : Scr K H a xs) : SqL K H a xs := by
  rcases h with ⟨o, h⟩ | h
  · exact .inl (.inr ⟨o, h⟩)
  · exact h H
theorem Scr.of {K : PySem.W.Frag} {H : Hp} {a : Addr} {xs : List V} (o : Only H) (h : SqL K H a xs) : Scr K H a xs := by
  rcases h with (h | ⟨u, h⟩) | h
  · rcases o a with z | ⟨u, ys, z⟩
    · rw [z] at h
      cases h
    · rw [z] at h
      cases h
  · exact .inl ⟨u, h⟩
  · exact .inr fun J => .inr h
theorem Scr.same {K : PySem.W.Frag} {H H' : Hp} {a : Addr} {xs : List V} (h : Scr K H a xs) (f : Same H H') : Scr K H' a xs := by
  rcases h with ⟨o, h⟩ | h
  · exact .inl ⟨o, f _ _ h⟩
  · exact .inr h
theorem Scr.fr {K : PySem.W.Frag} {H H' : Hp} {a p : Addr} {n : Nat} {xs : List V} (h : Scr K H a xs) (g : Well H p n) (f : Fr p H H') : Scr K H' a xs := by
  rcases h with ⟨o, h⟩ | h
  · refine .inl ⟨o, f _ _ h fun z => ?_⟩
    obtain ⟨x, y, u, e, _⟩ := g
    rw [z, e] at h
    cases h
  · exact .inr h
def spFits : Sp := fun vs H Q _ => ∃ (p : Addr) (n : Nat), vs = [.ref p] ∧ Well H p n ∧ n ≤ 10 ^ 6 ∧ ∀ H', Fr p H H' → Well H' p (n + 1000) → Q (.bl true) H'
def spLaw (K : PySem.W.Frag) : Sp := fun vs H Q _ => ∃ (a : Addr) (ns : List Int), vs = [.ref a] ∧ Scr K H a (ns.map V.int) ∧ ns.length ≤ 63 ∧ ∀ H', Q (.bl true) H'
/-- the turns of the inner loop -/
def turns : Nat := match defBody sLaw with
  | .For _ _ (_ :: .For _ (.Call _ (.Constant (.int n) _ _ :: _) _ _) _ _ _ :: _) _ _ :: _ => n.toNat
  | _ => 0
section
variable {P : Program} {w : World} {K : PySem.W.Frag} {mg : Str → Option Value} {base : Heap}
theorem scLaw : FnScope ["script", "place", "well", "turn"] ["script"] (defScope sLaw) := ⟨rfl, rfl, rfl, by decide +kernel, rfl, by decide +kernel, by decide +kernel⟩
theorem ok_law {f fW fF : Addr} {fd fdW fdF : FuncData} {k : Nat} (hk : 1 ≤ k) (F : Fun K "law" "law" sLaw f fd) (T : Blt mg) (W : At P w K mg base 1 "_law_well" ["script", "place"] (spWell K) fW fdW)
    (G : FnG P w K mg base k fF fdF ["well"] spFits) (gF : mg "_law_fits" = some (.ref fF)) (kF : PySem.W.keepIn K (.ref fF) = true) (bF : Binds K fdF ["well"] []) : FnG P w K mg base (k + 1) f fd ["script"] (spLaw K) := by
  refine okG F scLaw (fun vs H Q E h => ?_) (fun cdv A outer s H vs Q E hgd hr h => ?_)
  · obtain ⟨a, ns, rfl, _⟩ := h
    rfl
  · obtain ⟨a, ns, rfl, hS, hl, q⟩ := h
    have hr1 : Room 1 _ := hr.mono hk
    refine ⟨_, pss_cons (ps_for PassesOwn.never rfl (pi_range1 (by rfl) T.range (pa_cons (pe_callB (call_max2 rfl) (by rfl) T.max (by decide +kernel) (pa_cons pe_int (pa_cons (pe_callB (call_min2 rfl) (by rfl) T.min (by decide +kernel)
          (pa_cons pe_int (pa_cons (pe_callB call_len_seq (by rfl) T.len PySem.boot_len (pa_cons (pv 0) pa_nil)) pa_nil))) pa_nil))) pa_nil)) (pg_name (i := 1) scLaw.nd rfl (.inl rfl))
        (pss_cons (ps_set (i := 2) scLaw.nd rfl (.inl rfl) (pe_call W.ok hr1 (by rfl) W.at_ W.kp W.bi .nil pass0 (pa_cons (pv 0) (pa_cons (pv 1) pa_nil))))
        (pss_one (ps_for PassesOwn.never rfl (pi_range1 (by rfl) T.range (pa_cons pe_int pa_nil)) (pg_name (i := 3) scLaw.nd rfl (.inl rfl))
          (pss_one (ps_if (pt_not (pt_val (pe_callG G hgd hr (by rfl) gF kF bF (pa_cons (pv 2) pa_nil)))) (pss_one (ps_ret pe_bl)) pss_nil))))))
      (pss_one (ps_ret pe_bl)), ?_⟩
    refine ⟨_, rfl, a, _, rfl, .inl hS.seq, 63, _, rfl, 1, _, rfl, ?_⟩
    generalize hm : (if (if (((ns.map V.int).length : Nat) : Int) < 63 then (((ns.map V.int).length : Nat) : Int) else 63) > 1 then (if (((ns.map V.int).length : Nat) : Int) < 63 then (((ns.map V.int).length : Nat) : Int) else 63) else 1) = m
    have m1 : 1 ≤ m ∧ m ≤ 63 := by
      rw [← hm]
      split <;> split <;> omega
    refine ⟨m, rfl, by omega, by omega, for_range (lo := 0) (n := m.toNat) (fun i σ J => ∃ y1 y2 y3 : Option V, σ = [some (.ref a), y1, y2, y3] ∧ Scr K J a (ns.map V.int)) ⟨none, none, none, rfl, hS⟩ ?_ ?_⟩
    · rintro i σ J hi ⟨y1, y2, y3, rfl, hJ⟩
      refine ⟨_, rfl, _, rfl, ⟨a, ns, _, rfl, hJ.seq, hl, by omega, by omega, fun p J1 np s1 w1 => ?_⟩⟩
      refine ⟨turns, rfl, by decide +kernel, by decide +kernel, for_range (lo := 0) (n := turns) (fun j σ J2 => ∃ y3 : Option V, σ = [some (.ref a), some (.int (0 + i)), some (.ref p), y3] ∧ Scr K J2 a (ns.map V.int) ∧ Well J2 p (j * 1000)) ⟨_, rfl, hJ.same s1, w1.mono (by omega)⟩ ?_ ?_⟩
      · rintro j σ J2 hj ⟨y3, rfl, hJ2, w2⟩
        have tb : turns ≤ 100 := by decide +kernel
        refine ⟨_, rfl, ⟨p, _, rfl, w2, by omega, fun J3 f3 w3 => ⟨_, rfl, ?_⟩⟩⟩
        exact ⟨_, rfl, hJ2.fr w2 f3, w3.mono (by omega)⟩
      · rintro σ J2 ⟨y3, rfl, hJ2, w2⟩
        exact ⟨_, _, _, rfl, hJ2⟩
    · rintro σ J ⟨y1, y2, y3, rfl, hJ⟩
      exact q J
end

/-! ### own errors with the attribute value -/
section
open PySem.W PySem.Calls
variable {prog : Program} {w : World} {A : Around} {E : Value → Shared → Prop} {s : Shared} {K : Frag} {x D : Addr} {ox : Obj} {od : Obj}
theorem kin_classX {Q : Option Value → Shared → Prop} (hga : findIn K (.ref D) "__getattribute__" = some (some (.builtin "BaseException.__getattribute__"))) (hgt : findIn K (.ref D) "__getattr__" = some none) (hsub : subIn K (.ref D) (.type "BaseException") = some true)
    (hdct : hasDictIn K D = true) (ha : findIn K (.ref D) "__class__" = some (some (.builtin "object.__class__")))
    (hn : specialIn K (.builtin "object.__class__") "__get__" = some (some (.builtin "getset_descriptor.__get__"))) (htk : takesIn K (.builtin "object.__class__") = some true) (hm : mroIn K D (.type "object") = some true)
    (X : K.In s.heap) (I : InstAt s.heap x ox D (some od)) (h : Q (some (.ref D)) { s with toks := s.toks + 1 }) : wpAny (model prog w) A (getAttr? (.ref x) "__class__") Q E s := by
  have hf : findObj K D (some od) "__class__" = some (.bind (.builtin "getset_descriptor.__get__") (.builtin "object.__class__")) := findObj_data (by obtain ⟨cd, hc, _⟩ := any_some hdct; rw [hc]; rfl) ha hn htk
  obtain ⟨hp, g, d, t, os⟩ := s
  have L0 := I.type (M := model prog w)
  have L1 := looks_findIn (M := model prog w) X hga
  have L2 := looks_findIn (M := model prog w) X hgt
  have L3 := looks_find (M := model prog w) X I hf
  have sub : Looks (model prog w) hp (isInstance (.ref x) (.type "BaseException")) true := L0.andThen (looks_subIn X hsub)
  have hx0 : (false && onTheHeap (Value.builtin "BaseException.__getattribute__")) = false := rfl
  have hx2 : (Value.builtin "BaseException.__getattribute__" == Value.builtin "object.__getattribute__") = false := by decide +kernel
  have hx1 : (onTheHeap (Value.ref D) && Value.builtin "BaseException.__getattribute__" == Value.builtin "object.__getattribute__") = false := by rw [hx2]; rfl
  unfold getAttr? getAttrBy? getAttrBy
  refine wpAny_bind (wpAny_mkText (wpAny_bind (wpAny_attempt (wpAny_holding (wpAny_bind (L0.at (wpAny_bind (L1.at ?_))))))))
  show wpAny _ _ (if (onTheHeap (Value.ref D) && Value.builtin "BaseException.__getattribute__" == Value.builtin "object.__getattribute__") = true then _ else _) _ _ _
  rw [hx1, if_neg Bool.false_ne_true]
  unfold getAttrByItsOwn hookBefore
  refine wpAny_bind ?_
  rw [if_pos (show onTheHeap (Value.ref D) = true from rfl)]
  refine L2.at ?_
  refine wpAny_bind (wpAny_attempt (wpAny_holding ?_))
  unfold callGetattribute
  rw [hx0, if_neg Bool.false_ne_true]
  unfold boundAndCalled
  rw [PySem.F.excAttr_ValueError.ga.bind (.ref x)]
  refine wpAny_bind (wpAny_pure ?_)
  show wpAny _ _ (call (.builtin "BaseException.__getattribute__") [.ref x, .str "__class__" t]) _ _ _
  refine wpAny_call (codeAny_call_builtin PySem.F.excAttr_ValueError.ga.plain PySem.F.entry_bexc_ga ?_)
  refine @check_slot (model prog w) _ _ ⟨hp, g, d, t + 1, os⟩ "BaseException.__getattribute__" "BaseException" "__getattribute__" (.ref x) [.str "__class__" t] [] _ (by decide +kernel) (by decide +kernel) sub (PySem.F.args_bexc_ga (.ref x) (.str "__class__" t)) ?_
  unfold Builtin.«object.__getattribute__»
  refine wpAny_bind (wpAny_of_eq (a := ((Value.ref x : Value), [Value.str "__class__" t])) (by first | rfl | (simp only [slotArgs]; rfl)) ?_)
  refine wpAny_bind (wpAny_pure (wpAny_bind (L0.at (wpAny_bind (L3.at ?_)))))
  show wpAny _ _ (holding [Value.builtin "object.__class__"] (call (.builtin "getset_descriptor.__get__") [.builtin "object.__class__", .ref x, .ref D]) >>= ret) _ _ _
  refine wpAny_bind (wpAny_holding (wpAny_call (class_get (s := ⟨hp, g, d, t + 1, os⟩) (ox := ox) (od := some od) X I hm ?_)))
  refine wpAny_pure ?_
  show wpAny _ _ (handedOut (.ref D)) _ _ _
  rw [handedOut_of (v := .ref D) rfl]
  first
    | exact wpAny_pure (wpAny_pure h)
    | exact wpAny_pure h
    | exact wpAny_pure (wpAny_bind (wpAny_pure (wpAny_pure h)))
theorem kitx_excX (hga : findIn K (.ref D) "__getattribute__" = some (some (.builtin "BaseException.__getattribute__"))) (hgt : findIn K (.ref D) "__getattr__" = some none) (hsub : subIn K (.ref D) (.type "BaseException") = some true) (hdct : hasDictIn K D = true) (ha : findIn K (.ref D) "__class__" = some (some (.builtin "object.__class__")))
    (hn : specialIn K (.builtin "object.__class__") "__get__" = some (some (.builtin "getset_descriptor.__get__"))) (htk : takesIn K (.builtin "object.__class__") = some true) (hm : mroIn K D (.type "object") = some true) :
    KitX K (.ref x) (.ref D) (fun h => InstAt h x ox D (some od)) where
  ty := fun _ _ _ I => I.type
  it := fun _ _ X _ => by
    obtain ⟨cdD, hcD, _⟩ := any_some hdct
    unfold clsIn at hcD
    split at hcD
    · rename_i c' d' cd' sl' ho
      intro A' Q' E' s' k q
      unfold isType loadHead
      exact wpAny_bind (wpAny_loadPart (k _ _ (X _ _ ho)) (wpAny_pure q))
    · cases hcD
  ne := fun h tp dd its n sl X htp => by
    obtain ⟨cdD, hcD, _⟩ := any_some hdct
    refine Bool.eq_false_iff.mpr fun q => ?_
    have e : D = tp := Value.ref.inj (beq_iff_eq.mp q)
    subst e
    unfold clsIn at hcD
    split at hcD
    · rename_i c' d' cd' sl' ho
      have z := (X _ _ ho).symm.trans htp
      cases z
    · cases hcD
  ca := fun X I k => kin_classX hga hgt hsub hdct ha hn htk hm X I k
end
/-- what the top has written of an own error class: it stands at C, its __init__ is the def at fI -/
structure ErrC (K : PySem.W.Frag) (C fI : Addr) : Prop where
  ox : OexC K C
  noV : PySem.W.findIn K (.ref C) "value" = some none
  iC : PySem.W.findIn K (.ref C) "__init__" = some (some (.ref fI))
  xc : ExcC K C
/-- the error that the suite holds: at a, of the class D, its value v -/
def HeldE (K : PySem.W.Frag) (cls : Value) (d : Option Addr) (v : V) (D fI : Addr) (H : Hp) : Prop := cls = .ref D ∧ ErrC K D fI ∧ ∃ dd, d = some dd ∧ H dd = some (.xd [(("value" : Str), v)])
def rIsX (K : PySem.W.Frag) (a : Addr) (cls : Value) (d : Option Addr) : List V → Hp → VK → Prop := fun xs H Q => ∃ (D fI : Addr) (v c : V) (cv : Value) (b : Bool), xs = [.ref a, c] ∧ HeldE K cls d v D fI H ∧ (∀ u, RelV c u → u = cv) ∧ PySem.W.kitOne K (.ref D) cv = some b ∧ Q (.bl b) H
theorem call_isX {X : Cx} {a : Addr} {oe : Obj} {cls : Value} {d : Option Addr} {pn : List (Addr × Obj)} (hz : Zc cls d oe) (hf : ∃ vs, oe.data = .fields vs) : CallR (X.suite a ((a, oe) :: pn)) (.builtin "isinstance") (rIsX X.K a cls d) := by
  intro pins s σ H xs us Q I r h
  obtain ⟨D, fI, v, c, cv, b, rfl, ⟨rfl, C, dd, rfl, ea⟩, hcv, e, q⟩ := h
  cases r with
  | cons rx rr =>
    cases rr with
    | cons rt rr =>
      cases rr
      cases rx
      have ec := hcv _ rt
      subst ec
      obtain ⟨hget, _⟩ := I.pin (a, oe) (List.mem_append.mpr (.inl List.mem_cons_self))
      obtain ⟨vs, hd⟩ := hf
      have hx : ObjOk X.prog X.w H s.heap dd (.xd [(("value" : Str), v)]) := I.hok dd _ ea
      obtain ⟨mA, hns, hr⟩ := hx
      obtain ⟨od, ho, hl⟩ := lookIn_ns hns
      have J : PySem.W.InstAt s.heap a oe D (some od) := ⟨hget, hz.1, by unfold PySem.W.notCls; rw [hd] <;> rfl, by rw [hz.2]; exact ho⟩
      exact PySem.W.kia_one (kitx_excX C.xc.hg C.xc.hk C.xc.hs C.xc.hd C.xc.ha C.xc.hn C.xc.ht C.xc.hm) I.kIn J e (fun z => nomatch z) fun tk => ⟨.bl b, H, I.kept (t' := tk) fun _ _ z => z, rfl, q⟩
/-- e.value -/
def tVal (K : PySem.W.Frag) (a : Addr) (cls : Value) (d : Option Addr) (te : TE) : TE := fun σ H Q => te σ H fun x H1 => x = .ref a ∧ ∃ (D fI : Addr) (v : V), HeldE K cls d v D fI H1 ∧ Q v H1
theorem pe_val {X : Cx} {a : Addr} {oe : Obj} {cls : Value} {d : Option Addr} {pn : List (Addr × Obj)} {e : Expr} {te : TE} {pos : Pos} (hz : Zc cls d oe) (hf : ∃ vs, oe.data = .fields vs) (he : PE (X.suite a ((a, oe) :: pn)) e te)
    (hb : attributeBase e "value" X.env (eval e X.env) = eval e X.env := by rfl) : PE (X.suite a ((a, oe) :: pn)) (.Attribute e "value" pos) (tVal X.K a cls d te) := by
  refine ⟨fun pins s σ H Q I h => ?_⟩
  refine attr_of hb (thn (he.run pins s σ H _ I h) fun u s1 hh => ?_)
  obtain ⟨x, H1, I1, rx, ex, D, fI, v, ⟨ec, C, dd, ed, ea⟩, q⟩ := hh
  subst ex
  obtain rfl : u = Value.ref a := rx
  subst ec
  subst ed
  obtain ⟨ha, _⟩ := I1.pin (a, oe) (List.mem_append_left _ List.mem_cons_self)
  obtain ⟨vs, hd⟩ := hf
  have hx : ObjOk X.prog X.w H1 s1.heap dd (.xd [(("value" : Str), v)]) := I1.hok dd _ ea
  obtain ⟨mA, hns, hr⟩ := hx
  obtain ⟨od, ho, hl⟩ := lookIn_ns hns
  have l : List.lookup ("value" : Str) [(("value" : Str), v)] = some v := by simp [List.lookup]
  obtain ⟨u, hu, ru⟩ := RelO.some_of (v := v) (o := mA "value") (by rw [← l]; exact hr "value")
  have J : PySem.W.InstAt s1.heap a oe D (some od) := ⟨ha, hz.1, by unfold PySem.W.notCls; rw [hd] <;> rfl, by rw [hz.2]; exact ho⟩
  exact HandSPX.exc_get I1.kIn J C.xc.hg C.xc.hk C.xc.hs (PySem.W.findObj_own C.xc.hd C.noV rfl (by rw [hl, hu])) (handed_of ru) ⟨v, H1, I1.tok _, ru, q⟩
/-! ### C(e, ..) that may raise, wished for at the slots -/
section
variable {X : Cx} {CX : CXT} {k : Nat} {f C : Addr} {fd : FuncData} {ps : List Str} {sp : Sp} {E : L2.St → XK} {x : Str} {p pos : Pos} {e : Expr} {es : List Expr} {t : TA} {ds : List Value} {dvs : List V}
def tMakeS (C : Addr) (sp : Sp) (dvs : List V) (E : L2.St → XK) (t : TA) : TE := fun σ H Q => t σ H fun vs H1 => ∀ x dx, H1 x = none → H1 dx = none → dx ≠ x →
  sp (.ref x :: (vs ++ dvs)) (upd (upd H1 dx (.own x)) x (.ins C dx [])) (fun v H2 => v = .non ∧ Q (.ref x) H2) (E σ)
theorem pe_makeS (M : Mk X.K C f) (F : FnOk X.prog X.w X.K X.mg X.base CX k f fd ps sp) (hr : Room (k + 1) X.A) (hg : Gl X x) (hm : X.mg x = some (.ref C)) (hb : Binds X.K fd ps ds) (hd : Vals dvs ds) (hx : ∀ σ, PassesAt CX X σ (E σ))
    (ha : PA X (e :: es) t) (hdb : (x == ("__debug__" : Str)) = false := by decide) (he : starEach (e :: es) X.env = (false, eval e X.env) :: starEach es X.env := by rfl) (hpl : (backTo pos (starEach es X.env)).any (·.1) = false := by rfl) :
    PE X (.Call (.Name x p) (e :: es) [] pos) (tMakeS C sp dvs E t) := by
  refine ⟨fun pins s σ H Q I h => ?_⟩
  refine wpAny_Call_Name_kw (ld_glob I hg hm ?_ hdb)
  refine PySem.W.callWith_K (h₀ := X.base) I.ok.mod.kin M.kp (thn (ha.run pos pins s σ H _ I h) fun us s1 ⟨vs, H1, I1, r, q⟩ => ⟨I1.kIn, ?_⟩) he hpl
  have hq := q (s1.heap.objs.size + 1) s1.heap.objs.size (I1.hok.fresh (Nat.le_succ _)) (I1.hok.fresh (Nat.le_refl _)) (Nat.ne_of_lt (Nat.lt_succ_self _))
  have I2 := Inv.made (C := C) I1
  have r2 : Vals (V.ref (s1.heap.objs.size + 1) :: (vs ++ dvs)) (Value.ref (s1.heap.objs.size + 1) :: (us ++ ds)) := .cons rfl (r.append hd)
  have hl : (Value.ref (s1.heap.objs.size + 1) :: us ++ ds).length = ps.length := by
    have e := r2.length
    rw [F.len _ _ _ _ hq] at e
    exact e.symm
  refine wpAny_call (make_map (f := f) I1.kIn M.makes M.init (beq_iff_eq.mp M.fn) (codeAny_mono (F.run _ X.stack _ _ ⟨Value.ref (s1.heap.objs.size + 1) :: us, []⟩ (Value.ref (s1.heap.objs.size + 1) :: (us ++ ds)) _ _ (E σ) (hr.make C us [])
    (I2.env0.make C us []) (hb _ (Value.ref (s1.heap.objs.size + 1) :: us) I2.kIn hl) r2 hq) fun r s' hq' => ?_))
  cases r with
  | error e => exact hx σ pins _ _ e s' I2 hq'
  | ok fl =>
    cases fl with
    | ret u =>
      obtain ⟨v, H', I3, rv, ev, q3⟩ := I2.after hq'
      subst ev
      exact ⟨rv, ⟨V.ref (s1.heap.objs.size + 1), H', I3, rfl, q3⟩⟩
    | next => exact False.elim hq'
    | brk => exact False.elim hq'
    | cont => exact False.elim hq'
end
/-! ### the errors' __init__ -/
def spErr (K : PySem.W.Frag) : Sp := fun vs H Q _ => ∃ (a C : Addr) (v : V), vs = [.ref a, v] ∧ OexC K C ∧ PySem.W.findIn K (.ref C) "value" = some none ∧ H a = some (exo a C none) ∧
  ∀ dx, H dx = none → dx ≠ a → Q .non (upd (upd H dx (exd dx [(("value" : Str), v)])) a (exo a C (some dx)))
section
variable {P : Program} {w : World} {K : PySem.W.Frag} {mg : Str → Option Value} {base : Heap}
theorem scErr : FnScope ["self", "value"] ["self", "value"] (defScope sErr) := ⟨rfl, rfl, rfl, by decide +kernel, rfl, by decide +kernel, by decide +kernel⟩
theorem ok_err {f : Addr} {fd : FuncData} (F : Fun K "__init__" "DueError.__init__" sErr f fd) : FnOk P w K mg base CX0 1 f fd ["self", "value"] (spErr K) := by
  refine F.ok scErr (fun vs H Q E h => ?_) (fun cdv A outer s H vs Q E hr h => ?_)
  · obtain ⟨a, C, v, rfl, _⟩ := h
    rfl
  · obtain ⟨a, C, v, rfl, ox, nv, ha, k⟩ := h
    refine ⟨_, pss_one (ps_ost (pv 0) (pv 1)), ?_⟩
    exact ⟨_, rfl, _, rfl, a, C, rfl, ox, nv, .inl ⟨ha, fun dx nd ne => k dx nd ne⟩⟩
end
/-- an error is made: what its raising asks -/
theorem err_made {K : PySem.W.Frag} {C a : Addr} {v : V} {H1 : Hp} {Q : XK} {E : XK} (ox : OexC K C) (nv : PySem.W.findIn K (.ref C) "value" = some none) (na : H1 a = none)
    (k : ∀ (d : Addr) (H' : Hp), Same H1 H' → H1 d = none → H' d = some (.xd [(("value" : Str), v)]) → Q (.ref C) (some d) H') :
    spErr K [.ref a, v] (upd H1 a (exo a C none)) (fun v H2 => v = .non ∧ ∃ (d : Addr) (fs : List (Str × V)), H2 a = some (exo a C (some d)) ∧ H2 d = some (exd d fs) ∧ H1 d = none ∧ Q (.ref C) (some d) (upd (del H2 a) d (.xd fs))) E := by
  refine ⟨a, C, v, rfl, ox, nv, upd_same, fun dx nd ne => ⟨rfl, dx, [(("value" : Str), v)], upd_same, ?_, ?_, ?_⟩⟩
  · rw [upd_ne ne]
    exact upd_same
  · rw [upd_ne ne] at nd
    exact nd
  · have nd' : H1 dx = none := by
      rw [upd_ne ne] at nd
      exact nd
    refine k dx _ (fun b o e => ?_) nd' upd_same
    have b1 : b ≠ dx := ne_of_none e nd'
    have b2 : b ≠ a := ne_of_none e na
    rw [upd_ne b1, del_ne b2, upd_ne b2, upd_ne b1, upd_ne b2]
    exact e

theorem Paces.fits {ps : List Int} (h : Paces ps) : ∀ v ∈ ps, -10 ^ 40 < v ∧ v < 10 ^ 40 := fun v hv => by have := h.lo v hv; omega
theorem Marks.fit {cap : Int} {ms : List (Int × Int)} (h : Marks cap ms) (g : cap ≤ 3) : Fit ms := ⟨h.asc, h.val, by have := h.len; omega⟩
/-- a new calendar, by the promise of its __init__ -/
theorem made_ok {K : PySem.W.Frag} {C : Addr} {H : Hp} {x dx a b : Addr} {ps : List Int} {ts : List Addr} {ms : List (Int × Int)} {vs : List V} {R : VK} {E : XK} (hv : vs = [.ref x, .ref a, .ref b]) (nx : H x = none) (ndx : H dx = none)
    (ha : H a = some (.lst (ps.map V.int))) (hb : H b = some (.lst (ts.map V.ref))) (tp : Tups H ts ms) (hp : Paces ps) (fit : Fit ms)
    (k : ∀ H' l d, CalAt C H' x l d ps (realOf ps ms) → H l = none → H d = none → Same H H' → R .non H') :
    spInit C K vs (upd (upd H dx (.own x)) x (.ins C dx [])) R E := by
  have s0 : Same H (upd (upd H dx (.own x)) x (.ins C dx [])) := fun c o e => by
    rw [upd_ne (ne_of_none e nx), upd_ne (ne_of_none e ndx)]
    exact e
  refine ⟨x, dx, a, b, ps, ts, ms, hv, upd_same, SqL.of (s0 _ _ ha), SqL.of (s0 _ _ hb), tp.same s0, hp, fit, ne_of_none ha nx, ne_of_none hb nx, fun H' l d cal nl nd f => ?_⟩
  exact k H' l d cal (s0.free nl) (s0.free nd) (Same.made nx ndx f)

/-! ### {e for x in ..} of ints -/
/-- the reading: as of a list's, the new set at D, what it has and how many -/
def tScI (w : World) (wi : TI) (g : TG) (tt : TT) (te : TE) (vs : List Nat) : TE := fun σ H Q =>
  wi σ H fun J Ha => ∀ D, Ha D = none → ∃ Wk : Nat → Nat → Hp → Prop, (∃ m, Wk 0 m (upd Ha D (SetO w D (fun _ => false) 0))) ∧
    ∀ i m Hb, Wk i m Hb → (J.stop i Hb ∧ Q (.ref D) Hb) ∨
      (J.go i Hb ∧ ∃ Go : Hp → Prop, (∀ Hc, Go Hc → ∃ m', m' < m ∧ Wk (i + 1) m' Hc) ∧
        ∀ x Hc, J.yld i Hb x Hc → g x (wipe σ vs) Hc fun τ Hd => wipe τ vs = wipe σ vs ∧ tt τ Hd fun b He =>
          if b = true then te τ He fun y Hf => ∃ (c : Int) (S : Int → Bool) (n : Nat), y = .int c ∧ Hf D = some (SetO w D S n) ∧ n + 1 < scanBound ∧
            Go (upd Hf D (SetO w D (fun j => S j || decide (j = c)) (if S c = true then n else n + 1))) else Go He)
section
variable {X : Cx}
theorem addI_ok {pins : List (Addr × Obj)} {τ : L2.St} {H : Hp} {s : Shared} {E : Value → Shared → Prop} {D : Addr} {S : Int → Bool} {n : Nat} {c : Int} {tk : Tok} {Q : Value → Shared → Prop}
    (I : Inv X pins τ H s) (at_ : H D = some (SetO X.w D S n)) (room : n + 1 < scanBound)
    (q : ∀ s', Inv X pins τ (upd H D (SetO X.w D (fun j => S j || decide (j = c)) (if S c = true then n else n + 1))) s' → Q .none s') :
    wpAny (model X.prog X.w) X.A (call (.builtin "set.add") [.ref D, .int c tk]) Q E s := by
  refine setR_add (setO_get I at_) room fun h' same fresh => ?_
  have there : ∃ u, h'.get? D = some u := let ⟨o, _, _, _, e, _⟩ := fresh; ⟨o, e⟩
  exact q _ (I.write (e := D) (t' := s.toks + 1) (by rw [at_]; trivial) (.inl rfl) (fun b u ne e => (same.2 b ne).trans e) there (setO_new fresh))
end

section
variable {X : Cx}
open PpSet in
theorem pe_scI {el tgt src : Expr} {conds : List Expr} {sc : Scope} {own : List (PySem.Str × Nat)} {pos : Pos} {wi : TI} {g : TG} {tt : TT} {te : TE} (calm : X.calm = true) (nd : X.N.Nodup)
    (walks : PI X tgt src wi) (blk : BlkOk X.N X.env.scope sc own)
    (gs : ∀ (s : Shared) (H : Hp) (C : Addr) (cl : List (PySem.Str × Addr)) (fp : List Addr), PG (X.blk s H sc (compEnvC sc cl C X.env) fp) tgt g)
    (cs : ∀ (s : Shared) (H : Hp) (C : Addr) (cl : List (PySem.Str × Addr)) (fp : List Addr), PTs (X.blk s H sc (compEnvC sc cl C X.env) fp) conds tt)
    (es : ∀ (s : Shared) (H : Hp) (C : Addr) (cl : List (PySem.Str × Addr)) (fp : List Addr), PE (X.blk s H sc (compEnvC sc cl C X.env) fp) el te)
    (src0 : ∀ x, foldedSetIterable src X.env x = pure x := by intro _; rfl) :
    PE X (.SetComp el [⟨tgt, src, conds, 0⟩] sc pos) (tScI X.w wi g tt te (own.map (·.2))) := by
  refine ⟨fun pins s0 σ Hz Q Iz reading => ?_⟩
  rw [eval_SetComp]
  have cells : ∀ y ∈ sc.names, y.2 = .free → ∃ c, X.env.cells.lookup y.1 = some c := fun y my ey =>
    (blk.free y my ey).elim (fun k => Iz.ok.has _ (.inl k)) (fun k => Iz.ok.has _ (.inr k))
  refine wpAny_comprehension_free (use := none) rfl src0 (closure_ok cells) blk.kind (fun y my ey => by rw [blk.uniq y my, ey]) (thn (walks.run pins s0 σ Hz _ Iz reading) fun _ sa gotIter => thn gotIter fun _ sb got => ?_)
  obtain ⟨it, fp, tn, J, Ha, rfl, Ia, T, sta, freeA, q⟩ := got
  refine newSet_ok (newEnv_comp ?_)
  -- the set's place, and the state that has it
  generalize place : sb.heap.objs.size = D
  have none0 : Ha D = none := Ia.hok.fresh (Nat.le_of_eq place)
  obtain ⟨Wk, ⟨m0, w0⟩, turn⟩ := q D none0
  have sized : ∀ b ∈ fp, b < sb.heap.objs.size := fun b mb => let ⟨_, e, _⟩ := T.obj _ _ sta b mb; Heap.lt_size e
  generalize pushed : ({ sb with heap := sb.heap.push { cls := .type "set", dict := none, data := .set #[] 0 (.fresh 0 0 (!X.w.params.followText "set-order")) } } : Shared) = sd
  have heapd : sd.heap = sb.heap.push { cls := .type "set", dict := none, data := .set #[] 0 (.fresh 0 0 (!X.w.params.followText "set-order")) } := by rw [← pushed]
  have Id : Inv X pins σ (upd Ha D (SetO X.w D (fun _ => false) 0)) sd := by
    rw [← pushed, ← place]
    exact Ia.laid (t' := sb.toks) (fun b o e => Heap.get?_push_of_some _ e) (Nat.le_refl _) (setO_new (setR_fresh X.w))
  have freeD : ∀ b ∈ fp, FpOk X pins (upd Ha D (SetO X.w D (fun _ => false) 0)) b ∧ b < sd.heap.objs.size := fun b mb => by
    have lt := sized b mb
    refine ⟨⟨by rw [upd_ne (by rw [← place]; exact Nat.ne_of_lt lt)]; exact (freeA b mb).1, (freeA b mb).2⟩, ?_⟩
    rw [heapd, Heap.size_push]
    exact Nat.lt_succ_of_lt lt
  have std : tn 0 sd.heap := T.keep _ _ _ sta fun b _ o e => by rw [heapd]; exact Heap.get?_push_of_some _ e
  have Ie := block_start Id blk nd freeD
  have pg := gs sd (upd Ha D (SetO X.w D (fun _ => false) 0)) sd.heap.objs.size (cellsFrom (sd.heap.objs.size + 1) sc.names (cloFrom X.env.cells sc.names [])) fp
  have pt := cs sd (upd Ha D (SetO X.w D (fun _ => false) 0)) sd.heap.objs.size (cellsFrom (sd.heap.objs.size + 1) sc.names (cloFrom X.env.cells sc.names [])) fp
  have pe := es sd (upd Ha D (SetO X.w D (fun _ => false) 0)) sd.heap.objs.size (cellsFrom (sd.heap.objs.size + 1) sc.names (cloFrom X.env.cells sc.names [])) fp
  show codeAny _ _ (.compStart (.SetComp el [⟨tgt, src, conds, 0⟩] sc pos) 0 (.ref it) (.ref D) (compEnvC sc (cellsFrom (sd.heap.objs.size + 1) sc.names (cloFrom X.env.cells sc.names [])) sd.heap.objs.size X.env)) (compPost (model X.prog X.w) X.A X.xe none (EP X pins σ Q) (.ref D) sd.heap.objs.size) { sd with heap := pushCells (sd.heap.push { cls := .type "dict", data := .dict #[] }) sc.names }
  have apart : ∀ b ∈ fp, (upd Ha D (SetO X.w D (fun _ => false) 0)) b = none := fun b mb => (freeD b mb).1.1
  generalize envIs : compEnvC sc (cellsFrom (sd.heap.objs.size + 1) sc.names (cloFrom X.env.cells sc.names [])) sd.heap.objs.size X.env = ce at Ie pg pt pe ⊢
  have local_ : ce.locals = sd.heap.objs.size := by rw [← envIs]; rfl
  generalize upd Ha D (SetO X.w D (fun _ => false) 0) = Hd at Id Ie pg pt pe w0 apart freeD
  generalize blockIs : ({ sd with heap := pushCells (sd.heap.push { cls := .type "dict", data := .dict #[] }) sc.names } : Shared) = se at Ie ⊢
  have ste : tn 0 se.heap := T.keep _ _ _ std fun b _ o e => by rw [← blockIs]; exact pushCells_keeps _ _ _ _ (Heap.get?_push_of_some _ e)
  have still : ∀ {τ : L2.St} {H' : Hp} {s' : Shared}, Inv (X.blk sd Hd sc ce fp) [] τ H' s' → (∀ b ∈ fp, H' b = none) → ∀ b ∈ fp, FpOk (X.blk sd Hd sc ce fp) [] H' b := fun {τ H' s'} I' free b mb =>
    ⟨free b mb, (I'.ok.exf b mb).1, I'.ok.exfs b mb, .inl mb, fun _ c e => (I'.ok.exf b mb).2 _ c e, fun p mp => absurd (show p ∈ ([] : List (Addr × Obj)) ++ [] from mp) (by simp)⟩
  have loop : codeAny (model X.prog X.w) X.A (.compLoop (.SetComp el [⟨tgt, src, conds, 0⟩] sc pos) 0 (.ref it) (.ref D) ce) (compPost (model X.prog X.w) X.A X.xe none (EP X pins σ Q) (.ref D) sd.heap.objs.size) se := by
    refine compLoopS_any (fun k s' => ∃ i H', Inv (X.blk sd Hd sc ce fp) [] (wipe σ (own.map (·.2))) H' s' ∧ tn i s'.heap ∧ (∀ b ∈ fp, H' b = none) ∧ Wk i k H') ?_ m0 ⟨0, Hd, Ie, ste, apart, w0⟩
    rintro k sf ⟨i, Hf, If, stf, freeF, wf⟩
    rcases turn i k Hf wf with ⟨ends, res⟩ | ⟨goes, Go, less, each⟩
    · refine thnF (T.done (X.blk sd Hd sc ce fp) rfl rfl rfl calm i [] sf _ Hf (fun _ _ => False) If (still If freeF) stf ends) fun r sg hh => ?_
      obtain ⟨rfl, Ig⟩ := hh
      have back : Inv X pins σ Hf sg := Id.call' (ch := fp) Ig.os Ig.base Ig.hok Ig.bare fun b mb => ⟨(freeD b mb).1.2.2.2.1, (freeD b mb).1.2.1, (freeD b mb).1.2.2.2.2.1, (freeD b mb).1.2.2.2.2.2⟩
      have gone : Hf sd.heap.objs.size = none := by rw [← local_]; exact Ig.free
      obtain ⟨m, ns, _⟩ := Ig.loc
      have ns : sg.heap.Ns ce.locals m := ns
      rw [local_] at ns
      obtain ⟨p0, p1, p2, p3, p4, p5⟩ := Id.fpOk (Nat.le_refl _) gone
      exact ⟨m, ns, fun h'' same => ⟨.ref D, Hf, back.turned (t' := sg.toks) (fun b o ne e => (same.2 b ne).trans e) p0 p1 p3 p4 p5, rfl, res⟩⟩
    · refine thnF (T.item (X.blk sd Hd sc ce fp) rfl rfl rfl calm i [] sf _ Hf (fun _ _ => False) If (still If freeF) stf goes) fun r sg hh => ?_
      obtain ⟨u, rfl, owned⟩ := hh
      refine thnF owned fun _ sh hh => ?_
      obtain ⟨x, Hh, Ih, rx, yl, sth, freeH⟩ := hh
      have Ip := Ih.pinned (still Ih freeH) (T.obj _ _ sth)
      refine thnF (pg.run _ sh _ Hh x u _ Ip rx (each x Hh yl)) fun _ si hh => ?_
      obtain ⟨τ, Hi, Ii, wiped, rest⟩ := hh
      refine thnF (pt.run _ si τ Hi _ Ii rest) fun b sj hh => ?_
      obtain ⟨Hj, Ij, rest⟩ := hh
      have next : ∀ {s' : Shared} {H' : Hp}, Inv (X.blk sd Hd sc ce fp) ([] ++ pinsAt fp sh.heap) τ H' s' → Go H' → ∃ m, m < k ∧ ∃ i H', Inv (X.blk sd Hd sc ce fp) [] (wipe σ (own.map (·.2))) H' s' ∧ tn i s'.heap ∧ (∀ b ∈ fp, H' b = none) ∧ Wk i m H' := fun {s' H'} I' go' => by
        obtain ⟨m', lt, w'⟩ := less H' go'
        have pinned : ∀ b ∈ fp, ∀ o, sh.heap.get? b = some o → s'.heap.get? b = some o ∧ H' b = none := fun b mb o e =>
          have z := I'.pin (b, o) (List.mem_append_right _ (List.mem_append_right _ (mem_pinsAt mb e)))
          ⟨z.1, z.2.1⟩
        refine ⟨m', lt, i + 1, H', (I'.unpinned (pins := [])).weak (by rw [← wiped, wipe_length]) (fun j v e => by rw [← wiped] at e; exact (wipe_some e).1), T.keep _ _ _ sth fun b mb o e => (pinned b mb o e).1, fun b mb => ?_, w'⟩
        obtain ⟨o, e, _⟩ := T.obj _ _ sth b mb
        exact (pinned b mb o e).2
      cases b with
      | false =>
        simp only [Bool.false_eq_true, if_false] at rest ⊢
        exact next Ij rest
      | true =>
        simp only [if_true] at rest ⊢
        refine thnF (pe.run _ sj τ Hj _ Ij rest) fun zv sk hh => ?_
        obtain ⟨yv, Hk, Ik, ry, c, S, n, rfl, hasD, room, go'⟩ := hh
        obtain ⟨tk, rfl⟩ := (show ∃ t, zv = Value.int c t from ry)
        exact addI_ok (X := X.blk sd Hd sc ce fp) Ik hasD room fun s' I' => next I' go'
  exact codeAny_compStart_set loop (T.self X.A 0 _ _ _ ste loop)
end
/-- over a list that the block leaves as it is -/
theorem scI_list {w : World} {K : PySem.W.Frag} {a : Addr} {xs : List V} {g : TG} {tt : TT} {te : TE} {vs : List Nat} {σ : L2.St} {H1 : Hp} {D : Addr} {Qd : Hp → Prop} (Pv : Nat → Hp → Prop) (h0 : Pv 0 (upd H1 D (SetO w D (fun _ => false) 0)))
    (stays : ∀ i H, i ≤ xs.length → Pv i H → SqL K H a xs)
    (each : ∀ i x H, xs[i]? = some x → Pv i H → g x (wipe σ vs) H fun τ Hd => wipe τ vs = wipe σ vs ∧ tt τ Hd fun b He =>
      if b = true then te τ He fun y Hf => ∃ (c : Int) (S : Int → Bool) (n : Nat), y = .int c ∧ Hf D = some (SetO w D S n) ∧ n + 1 < scanBound ∧ Pv (i + 1) (upd Hf D (SetO w D (fun j => S j || decide (j = c)) (if S c = true then n else n + 1))) else Pv (i + 1) He)
    (fin : ∀ H, Pv xs.length H → Qd H) :
    ∃ Wk : Nat → Nat → Hp → Prop, (∃ m, Wk 0 m (upd H1 D (SetO w D (fun _ => false) 0))) ∧ ∀ i m Hb, Wk i m Hb → ((Itl K a).stop i Hb ∧ Qd Hb) ∨
      ((Itl K a).go i Hb ∧ ∃ Go : Hp → Prop, (∀ Hc, Go Hc → ∃ m', m' < m ∧ Wk (i + 1) m' Hc) ∧ ∀ x Hc, (Itl K a).yld i Hb x Hc → g x (wipe σ vs) Hc fun τ Hd => wipe τ vs = wipe σ vs ∧ tt τ Hd fun b He =>
        if b = true then te τ He fun y Hf => ∃ (c : Int) (S : Int → Bool) (n : Nat), y = .int c ∧ Hf D = some (SetO w D S n) ∧ n + 1 < scanBound ∧ Go (upd Hf D (SetO w D (fun j => S j || decide (j = c)) (if S c = true then n else n + 1))) else Go He) := by
  refine ⟨fun i m H => m = xs.length - i ∧ i ≤ xs.length ∧ Pv i H, ⟨xs.length, by simp, Nat.zero_le _, h0⟩, ?_⟩
  rintro i m H ⟨rfl, hi, pv⟩
  have sq := stays i H hi pv
  by_cases lt : i < xs.length
  · exact .inr ⟨⟨xs, xs[i], sq, by simp [lt]⟩, Pv (i + 1), fun Hc p' => ⟨xs.length - (i + 1), by omega, rfl, lt, p'⟩, fun x Hc yl => by
      obtain ⟨rfl, yl⟩ := yl
      exact each i x _ (yl xs sq) pv⟩
  · obtain rfl : i = xs.length := by omega
    exact .inl ⟨⟨xs, sq, Nat.le_refl _⟩, fin H pv⟩

/-! ### {e for x in .. for y in ..} of ints -/
section
variable {el ta sa tb sb : Expr} {ca cb : List Expr} {sc : Scope} {pos : Pos} {ite set_ : Value} {en : Env}
abbrev two2 (el ta sa tb sb : Expr) (ca cb : List Expr) (sc : Scope) (pos : Pos) : Expr := .SetComp el [⟨ta, sa, ca, 0⟩, ⟨tb, sb, cb, 0⟩] sc pos
theorem turnA (el ta sa tb sb : Expr) (ca cb : List Expr) (sc : Scope) (pos : Pos) (ite set_ : Value) (en : Env) :
    compTurn (two2 el ta sa tb sb ca cb sc pos) 0 ite set_ en = (do
      standAt sa.pos
      match ← pyNext ite with
      | none => pure (.done .next)
      | some got =>
        letOwnedTupleGo ta ite got
        assign ta en got
        let mut go := true
        for q in ca do
          if go then go ← isTrue q en (eval q en)
        if go then
          let src ← eval sb en
          standAt sb.pos
          let src ← foldedSetIterable sb en src
          let _ ← runOwn (.compStart (two2 el ta sa tb sb ca cb sc pos) 1 (← holding [src] (pyIter src)) set_ en) en
        again (.compLoop (two2 el ta sa tb sb ca cb sc pos) 0 ite set_ en)) := by rfl
theorem turnB (el ta sa tb sb : Expr) (ca cb : List Expr) (sc : Scope) (pos : Pos) (ite set_ : Value) (en : Env) :
    compTurn (two2 el ta sa tb sb ca cb sc pos) 1 ite set_ en = (do
      standAt sb.pos
      match ← pyNext ite with
      | none => pure (.done .next)
      | some got =>
        letOwnedTupleGo tb ite got
        assign tb en got
        let mut go := true
        for q in cb do
          if go then go ← isTrue q en (eval q en)
        if go then
          (do let got ← eval el en; standAt el.pos; let _ ← call (.builtin "set.add") [set_, got])
        again (.compLoop (two2 el ta sa tb sb ca cb sc pos) 1 ite set_ en)) := by rfl
variable {prog : Program} {w : World} {A : Around} {Rs : Result → Shared → Prop} {s0 : Shared}
theorem loopA (plain : ∀ z, foldedSetIterable sb en z = pure z) (J : Nat → Shared → Prop)
    (each : ∀ k t, J k t → wpAny (model prog w) A (pyNext ite) (fun got t1 => match got with
      | none => Rs (.ok .next) t1
      | some v => wpAny (model prog w) A (letOwnedTupleGo ta ite v) (fun _ t2 => wpAny (model prog w) A (assign ta en v) (fun _ t3 =>
          wpAny (model prog w) A (forIn ca true fun q go => if go = true then do let yes ← isTrue q en (eval q en); pure (ForInStep.yield yes) else pure (ForInStep.yield go)) (fun yes t4 =>
            if yes = true then wpAny (model prog w) A (eval sb en) (fun src t5 => wpAny (model prog w) A (pyIter src) (fun ite1 t6 =>
              codeAny (model prog w) A (.compStart (two2 el ta sa tb sb ca cb sc pos) 1 ite1 set_ en) (fun res t7 => match res with
                | .ok _ => ∃ j, j < k ∧ J j t7
                | .error _ => False) t6) (notedBy (model prog w) A en fun er t7 => Rs (.error er) t7) t5) (notedBy (model prog w) A en fun er t7 => Rs (.error er) t7) t4
            else ∃ j, j < k ∧ J j t4) (notedBy (model prog w) A en fun er t7 => Rs (.error er) t7) t3) (notedBy (model prog w) A en fun er t7 => Rs (.error er) t7) t2) (notedBy (model prog w) A en fun er t7 => Rs (.error er) t7) t1) (notedBy (model prog w) A en fun er t7 => Rs (.error er) t7) t)
    (k : Nat) (at_ : J k s0) : codeAny (model prog w) A (.compLoop (two2 el ta sa tb sb ca cb sc pos) 0 ite set_ en) Rs s0 := by
  refine codeAny_loop rfl J (fun k t hk => ?_) k at_
  show wpAny _ A ((compTurn (two2 el ta sa tb sb ca cb sc pos) 0 ite set_ en).onRaise (fun z => do noteFrame z en; theTreesLotGoes z)) _ _ t
  refine wpAny_noted ?_
  rw [turnA]
  refine wpAny_bind (wpAny_standAt (wpAny_bind (wpAny_mono (each k t hk) (fun got t1 h1 => ?_) fun _ _ z => z)))
  cases got with
  | none => exact wpAny_pure h1
  | some v =>
    refine wpAny_bind (wpAny_mono h1 (fun _ t2 h2 => ?_) fun _ _ z => z)
    refine wpAny_bind (wpAny_mono h2 (fun _ t3 h3 => wpAny_bind (wpAny_mono h3 (fun yes t4 h4 => ?_) fun _ _ z => z)) fun _ _ z => z)
    cases yes with
    | false => exact wpAny_pure ⟨rfl, h4⟩
    | true =>
      refine wpAny_bind (wpAny_mono h4 (fun src t5 h5 => ?_) fun _ _ z => z)
      refine wpAny_bind (wpAny_standAt (wpAny_bind (wpAny_of_eq (plain src) (wpAny_bind (wpAny_holding (wpAny_mono h5 (fun ite1 t6 h6 => ?_) fun _ _ z => z))))))
      refine wpAny_bind (wpAny_runOwn ?_)
      rw [Around.mark_none]
      refine codeAny_mono h6 fun res t7 h7 => ?_
      cases res with
      | ok fl =>
        first
          | exact wpAny_pure ⟨rfl, h7⟩
          | exact wpAny_bind (wpAny_pure (wpAny_pure ⟨rfl, h7⟩))
      | error er => exact h7.elim
theorem loopB (J : Nat → Shared → Prop)
    (each : ∀ k t, J k t → wpAny (model prog w) A (pyNext ite) (fun got t1 => match got with
      | none => Rs (.ok .next) t1
      | some v => wpAny (model prog w) A (letOwnedTupleGo tb ite v) (fun _ t2 => wpAny (model prog w) A (assign tb en v) (fun _ t3 =>
          wpAny (model prog w) A (forIn cb true fun q go => if go = true then do let yes ← isTrue q en (eval q en); pure (ForInStep.yield yes) else pure (ForInStep.yield go)) (fun yes t4 =>
            if yes = true then wpAny (model prog w) A (eval el en) (fun z t5 =>
              wpAny (model prog w) A (call (.builtin "set.add") [set_, z]) (fun _ t6 => ∃ j, j < k ∧ J j t6) (notedBy (model prog w) A en fun er t7 => Rs (.error er) t7) t5) (notedBy (model prog w) A en fun er t7 => Rs (.error er) t7) t4
            else ∃ j, j < k ∧ J j t4) (notedBy (model prog w) A en fun er t7 => Rs (.error er) t7) t3) (notedBy (model prog w) A en fun er t7 => Rs (.error er) t7) t2) (notedBy (model prog w) A en fun er t7 => Rs (.error er) t7) t1) (notedBy (model prog w) A en fun er t7 => Rs (.error er) t7) t)
    (k : Nat) (at_ : J k s0) : codeAny (model prog w) A (.compLoop (two2 el ta sa tb sb ca cb sc pos) 1 ite set_ en) Rs s0 := by
  refine codeAny_loop rfl J (fun k t hk => ?_) k at_
  show wpAny _ A ((compTurn (two2 el ta sa tb sb ca cb sc pos) 1 ite set_ en).onRaise (fun z => do noteFrame z en; theTreesLotGoes z)) _ _ t
  refine wpAny_noted ?_
  rw [turnB]
  refine wpAny_bind (wpAny_standAt (wpAny_bind (wpAny_mono (each k t hk) (fun got t1 h1 => ?_) fun _ _ z => z)))
  cases got with
  | none => exact wpAny_pure h1
  | some v =>
    refine wpAny_bind (wpAny_mono h1 (fun _ t2 h2 => ?_) fun _ _ z => z)
    refine wpAny_bind (wpAny_mono h2 (fun _ t3 h3 => wpAny_bind (wpAny_mono h3 (fun yes t4 h4 => ?_) fun _ _ z => z)) fun _ _ z => z)
    cases yes with
    | false => exact wpAny_pure ⟨rfl, h4⟩
    | true =>
      exact wpAny_bind (wpAny_bind (wpAny_mono h4 (fun z t5 h5 => wpAny_bind (wpAny_standAt (wpAny_bind (wpAny_mono h5 (fun _ t6 h6 => wpAny_pure (wpAny_pure ⟨rfl, h6⟩)) fun _ _ z => z)))) fun _ _ z => z))
theorem startB (there : codeAny (model prog w) A (.compLoop (two2 el ta sa tb sb ca cb sc pos) 1 ite set_ en) Rs s0)
    (other : wpAny (model prog w) A (pyIter ite) (fun it2 t => codeAny (model prog w) A (.compLoop (two2 el ta sa tb sb ca cb sc pos) 1 it2 set_ en) Rs t) (notedBy (model prog w) A en fun er t => Rs (.error er) t) s0) :
    codeAny (model prog w) A (.compStart (two2 el ta sa tb sb ca cb sc pos) 1 ite set_ en) Rs s0 := by
  refine codeAny_of_tree ?_
  show wpAny _ _ ((compStart (two2 el ta sa tb sb ca cb sc pos) 1 ite set_ en).onRaise (fun z => do noteFrame z en; standAt theWindowsPlace)) _ _ s0
  refine wpAny_notedAt ?_
  unfold compStart
  show wpAny _ _ (ask >>= _) _ _ s0
  refine wpAny_bind (wpAny_askSetting (wpAny_ite ?_))
  split
  · first
      | exact wpAny_bind (wpAny_pure (wpAny_pure (And.intro rfl there)))
      | exact wpAny_pure (And.intro rfl there)
  · first
      | exact wpAny_bind (wpAny_rule (wpAny_bind (wpAny_standAt (wpAny_bind (wpAny_mono other (fun it2 t z => wpAny_pure (And.intro rfl z)) fun _ _ z => z)))))
      | (refine wpAny_bind (wpAny_rule ?_); show wpAny _ _ (standAt sb.pos >>= _) _ _ s0; exact wpAny_bind (wpAny_standAt (wpAny_bind (wpAny_mono other (fun it2 t z => wpAny_pure (And.intro rfl z)) fun _ _ z => z))))
end
/-- the reading: behind the first clause's store and tests the second source's own walk -/
def tSc2 (w : World) (wi : TI) (g : TG) (tt : TT) (wj : TI) (gj : TG) (tj : TT) (te : TE) (vs us : List Nat) : TE := fun σ H Q =>
  wi σ H fun J Ha => ∀ D, Ha D = none → ∃ Wk : Nat → Nat → Hp → Prop, (∃ m, Wk 0 m (upd Ha D (SetO w D (fun _ => false) 0))) ∧
    ∀ i m Hb, Wk i m Hb → (J.stop i Hb ∧ Q (.ref D) Hb) ∨
      (J.go i Hb ∧ ∃ Go : Hp → Prop, (∀ Hc, Go Hc → ∃ m', m' < m ∧ Wk (i + 1) m' Hc) ∧
        ∀ x Hc, J.yld i Hb x Hc → g x (wipe σ vs) Hc fun τ Hd => wipe τ vs = wipe σ vs ∧ tt τ Hd fun b He =>
          if b = true then wj τ He fun Jn Hf => ∃ Wn : Nat → Nat → Hp → Prop, (∃ k, Wn 0 k Hf) ∧ ∀ j k Hg, Wn j k Hg → (Jn.stop j Hg ∧ Go Hg) ∨
            (Jn.go j Hg ∧ ∃ Gn : Hp → Prop, (∀ Hh, Gn Hh → ∃ k', k' < k ∧ Wn (j + 1) k' Hh) ∧ ∀ y Hh, Jn.yld j Hg y Hh → gj y (wipe τ us) Hh fun υ Hi => wipe υ us = wipe τ us ∧ tj υ Hi fun b2 Hj =>
              if b2 = true then te υ Hj fun z Hk => ∃ (c : Int) (S : Int → Bool) (n : Nat), z = .int c ∧ Hk D = some (SetO w D S n) ∧ n + 1 < scanBound ∧
                Gn (upd Hk D (SetO w D (fun j => S j || decide (j = c)) (if S c = true then n else n + 1))) else Gn Hj)
          else Go He)
section
variable {X : Cx}
open PpSet in
theorem pe_sc2 {el ta sa tb sb : Expr} {ca cb : List Expr} {sc : Scope} {own : List (PySem.Str × Nat)} {us : List Nat} {pos : Pos} {wi wj : TI} {g gj : TG} {tt tj : TT} {te : TE} (calm : X.calm = true) (nd : X.N.Nodup)
    (walks : PI X ta sa wi) (blk : BlkOk X.N X.env.scope sc own) (sub : ∀ i ∈ us, i ∈ own.map (·.2))
    (gs : ∀ (s : Shared) (H : Hp) (C : Addr) (cl : List (PySem.Str × Addr)) (fp : List Addr), PG (X.blk s H sc (compEnvC sc cl C X.env) fp) ta g)
    (cs : ∀ (s : Shared) (H : Hp) (C : Addr) (cl : List (PySem.Str × Addr)) (fp : List Addr), PTs (X.blk s H sc (compEnvC sc cl C X.env) fp) ca tt)
    (walkj : ∀ (s : Shared) (H : Hp) (C : Addr) (cl : List (PySem.Str × Addr)) (fp : List Addr), PI (X.blk s H sc (compEnvC sc cl C X.env) fp) tb sb wj)
    (gsj : ∀ (s : Shared) (H : Hp) (C : Addr) (cl : List (PySem.Str × Addr)) (fp : List Addr), PG (X.blk s H sc (compEnvC sc cl C X.env) fp) tb gj)
    (csj : ∀ (s : Shared) (H : Hp) (C : Addr) (cl : List (PySem.Str × Addr)) (fp : List Addr), PTs (X.blk s H sc (compEnvC sc cl C X.env) fp) cb tj)
    (es : ∀ (s : Shared) (H : Hp) (C : Addr) (cl : List (PySem.Str × Addr)) (fp : List Addr), PE (X.blk s H sc (compEnvC sc cl C X.env) fp) el te)
    (src0 : ∀ x, foldedSetIterable sa X.env x = pure x := by intro _; rfl) (src1 : ∀ env x, foldedSetIterable sb env x = pure x := by intro _ _; rfl) :
    PE X (.SetComp el [⟨ta, sa, ca, 0⟩, ⟨tb, sb, cb, 0⟩] sc pos) (tSc2 X.w wi g tt wj gj tj te (own.map (·.2)) us) := by
  refine ⟨fun pins s0 σ Hz Q Iz reading => ?_⟩
  rw [eval_SetComp]
  have cells : ∀ y ∈ sc.names, y.2 = .free → ∃ c, X.env.cells.lookup y.1 = some c := fun y my ey =>
    (blk.free y my ey).elim (fun k => Iz.ok.has _ (.inl k)) (fun k => Iz.ok.has _ (.inr k))
  refine wpAny_comprehension_free (use := none) rfl src0 (closure_ok cells) blk.kind (fun y my ey => by rw [blk.uniq y my, ey]) (thn (walks.run pins s0 σ Hz _ Iz reading) fun _ sa' gotIter => thn gotIter fun _ sb' got => ?_)
  obtain ⟨it, fp, tn, J, Ha, rfl, Ia, T, sta, freeA, q⟩ := got
  refine newSet_ok (newEnv_comp ?_)
  generalize place : sb'.heap.objs.size = D
  have none0 : Ha D = none := Ia.hok.fresh (Nat.le_of_eq place)
  obtain ⟨Wk, ⟨m0, w0⟩, turn⟩ := q D none0
  have sized : ∀ b ∈ fp, b < sb'.heap.objs.size := fun b mb => let ⟨_, e, _⟩ := T.obj _ _ sta b mb; Heap.lt_size e
  generalize pushed : ({ sb' with heap := sb'.heap.push { cls := .type "set", dict := none, data := .set #[] 0 (.fresh 0 0 (!X.w.params.followText "set-order")) } } : Shared) = sd
  have heapd : sd.heap = sb'.heap.push { cls := .type "set", dict := none, data := .set #[] 0 (.fresh 0 0 (!X.w.params.followText "set-order")) } := by rw [← pushed]
  have Id : Inv X pins σ (upd Ha D (SetO X.w D (fun _ => false) 0)) sd := by
    rw [← pushed, ← place]
    exact Ia.laid (t' := sb'.toks) (fun b o e => Heap.get?_push_of_some _ e) (Nat.le_refl _) (setO_new (setR_fresh X.w))
  have freeD : ∀ b ∈ fp, FpOk X pins (upd Ha D (SetO X.w D (fun _ => false) 0)) b ∧ b < sd.heap.objs.size := fun b mb => by
    have lt := sized b mb
    refine ⟨⟨by rw [upd_ne (by rw [← place]; exact Nat.ne_of_lt lt)]; exact (freeA b mb).1, (freeA b mb).2⟩, ?_⟩
    rw [heapd, Heap.size_push]
    exact Nat.lt_succ_of_lt lt
  have std : tn 0 sd.heap := T.keep _ _ _ sta fun b _ o e => by rw [heapd]; exact Heap.get?_push_of_some _ e
  have Ie := block_start Id blk nd freeD
  have pg := gs sd (upd Ha D (SetO X.w D (fun _ => false) 0)) sd.heap.objs.size (cellsFrom (sd.heap.objs.size + 1) sc.names (cloFrom X.env.cells sc.names [])) fp
  have pt := cs sd (upd Ha D (SetO X.w D (fun _ => false) 0)) sd.heap.objs.size (cellsFrom (sd.heap.objs.size + 1) sc.names (cloFrom X.env.cells sc.names [])) fp
  have pe := es sd (upd Ha D (SetO X.w D (fun _ => false) 0)) sd.heap.objs.size (cellsFrom (sd.heap.objs.size + 1) sc.names (cloFrom X.env.cells sc.names [])) fp
  have pwj := walkj sd (upd Ha D (SetO X.w D (fun _ => false) 0)) sd.heap.objs.size (cellsFrom (sd.heap.objs.size + 1) sc.names (cloFrom X.env.cells sc.names [])) fp
  have pgj := gsj sd (upd Ha D (SetO X.w D (fun _ => false) 0)) sd.heap.objs.size (cellsFrom (sd.heap.objs.size + 1) sc.names (cloFrom X.env.cells sc.names [])) fp
  have ptj := csj sd (upd Ha D (SetO X.w D (fun _ => false) 0)) sd.heap.objs.size (cellsFrom (sd.heap.objs.size + 1) sc.names (cloFrom X.env.cells sc.names [])) fp
  show codeAny _ _ (.compStart (two2 el ta sa tb sb ca cb sc pos) 0 (.ref it) (.ref D) (compEnvC sc (cellsFrom (sd.heap.objs.size + 1) sc.names (cloFrom X.env.cells sc.names [])) sd.heap.objs.size X.env)) (compPost (model X.prog X.w) X.A X.xe none (EP X pins σ Q) (.ref D) sd.heap.objs.size) { sd with heap := pushCells (sd.heap.push { cls := .type "dict", data := .dict #[] }) sc.names }
  have apart : ∀ b ∈ fp, (upd Ha D (SetO X.w D (fun _ => false) 0)) b = none := fun b mb => (freeD b mb).1.1
  generalize envIs : compEnvC sc (cellsFrom (sd.heap.objs.size + 1) sc.names (cloFrom X.env.cells sc.names [])) sd.heap.objs.size X.env = ce at Ie pg pt pe pwj pgj ptj ⊢
  have local_ : ce.locals = sd.heap.objs.size := by rw [← envIs]; rfl
  generalize upd Ha D (SetO X.w D (fun _ => false) 0) = Hd at Id Ie pg pt pe pwj pgj ptj w0 apart freeD
  generalize blockIs : ({ sd with heap := pushCells (sd.heap.push { cls := .type "dict", data := .dict #[] }) sc.names } : Shared) = se at Ie ⊢
  have ste : tn 0 se.heap := T.keep _ _ _ std fun b _ o e => by rw [← blockIs]; exact pushCells_keeps _ _ _ _ (Heap.get?_push_of_some _ e)
  have still : ∀ {τ : L2.St} {H' : Hp} {s' : Shared}, Inv (X.blk sd Hd sc ce fp) [] τ H' s' → (∀ b ∈ fp, H' b = none) → ∀ b ∈ fp, FpOk (X.blk sd Hd sc ce fp) [] H' b := fun {τ H' s'} I' free b mb =>
    ⟨free b mb, (I'.ok.exf b mb).1, I'.ok.exfs b mb, .inl mb, fun _ c e => (I'.ok.exf b mb).2 _ c e, fun p mp => absurd (show p ∈ ([] : List (Addr × Obj)) ++ [] from mp) (by simp)⟩
  have loop : codeAny (model X.prog X.w) X.A (.compLoop (two2 el ta sa tb sb ca cb sc pos) 0 (.ref it) (.ref D) ce) (compPost (model X.prog X.w) X.A X.xe none (EP X pins σ Q) (.ref D) sd.heap.objs.size) se := by
    refine loopA (src1 ce) (fun k s' => ∃ i H', Inv (X.blk sd Hd sc ce fp) [] (wipe σ (own.map (·.2))) H' s' ∧ tn i s'.heap ∧ (∀ b ∈ fp, H' b = none) ∧ Wk i k H') ?_ m0 ⟨0, Hd, Ie, ste, apart, w0⟩
    rintro k sf ⟨i, Hf, If, stf, freeF, wf⟩
    rcases turn i k Hf wf with ⟨ends, res⟩ | ⟨goes, Go, less, each⟩
    · refine thnF (T.done (X.blk sd Hd sc ce fp) rfl rfl rfl calm i [] sf _ Hf (fun _ _ => False) If (still If freeF) stf ends) fun r sg hh => ?_
      obtain ⟨rfl, Ig⟩ := hh
      have back : Inv X pins σ Hf sg := Id.call' (ch := fp) Ig.os Ig.base Ig.hok Ig.bare fun b mb => ⟨(freeD b mb).1.2.2.2.1, (freeD b mb).1.2.1, (freeD b mb).1.2.2.2.2.1, (freeD b mb).1.2.2.2.2.2⟩
      have gone : Hf sd.heap.objs.size = none := by rw [← local_]; exact Ig.free
      obtain ⟨m, ns, _⟩ := Ig.loc
      have ns : sg.heap.Ns ce.locals m := ns
      rw [local_] at ns
      obtain ⟨p0, p1, p2, p3, p4, p5⟩ := Id.fpOk (Nat.le_refl _) gone
      exact ⟨m, ns, fun h'' same => ⟨.ref D, Hf, back.turned (t' := sg.toks) (fun b o ne e => (same.2 b ne).trans e) p0 p1 p3 p4 p5, rfl, res⟩⟩
    · refine thnF (T.item (X.blk sd Hd sc ce fp) rfl rfl rfl calm i [] sf _ Hf (fun _ _ => False) If (still If freeF) stf goes) fun r sg hh => ?_
      obtain ⟨u, rfl, owned⟩ := hh
      refine thnF owned fun _ sh hh => ?_
      obtain ⟨x, Hh, Ih, rx, yl, sth, freeH⟩ := hh
      have Ip := Ih.pinned (still Ih freeH) (T.obj _ _ sth)
      refine thnF (pg.run _ sh _ Hh x u _ Ip rx (each x Hh yl)) fun _ si hh => ?_
      obtain ⟨τ, Hi, Ii, wiped, rest⟩ := hh
      refine thnF (pt.run _ si τ Hi _ Ii rest) fun b sj hh => ?_
      obtain ⟨Hj, Ij, rest⟩ := hh
      have next : ∀ {υ : L2.St} {s' : Shared} {H' : Hp}, Inv (X.blk sd Hd sc ce fp) ([] ++ pinsAt fp sh.heap) υ H' s' → (wipe σ (own.map (·.2))).length = υ.length → (∀ (j : Nat) v, (wipe σ (own.map (·.2)))[j]? = some (some v) → υ[j]? = some (some v)) → Go H' → ∃ m, m < k ∧ ∃ i H', Inv (X.blk sd Hd sc ce fp) [] (wipe σ (own.map (·.2))) H' s' ∧ tn i s'.heap ∧ (∀ b ∈ fp, H' b = none) ∧ Wk i m H' := fun {υ s' H'} I' le le2 go' => by
        obtain ⟨m', lt, w'⟩ := less H' go'
        have pinned : ∀ b ∈ fp, ∀ o, sh.heap.get? b = some o → s'.heap.get? b = some o ∧ H' b = none := fun b mb o e =>
          have z := I'.pin (b, o) (List.mem_append_right _ (List.mem_append_right _ (mem_pinsAt mb e)))
          ⟨z.1, z.2.1⟩
        refine ⟨m', lt, i + 1, H', (I'.unpinned (pins := [])).weak le le2, T.keep _ _ _ sth fun b mb o e => (pinned b mb o e).1, fun b mb => ?_, w'⟩
        obtain ⟨o, e, _⟩ := T.obj _ _ sth b mb
        exact (pinned b mb o e).2
      have lenτ : (wipe σ (own.map (·.2))).length = τ.length := by rw [← wiped, wipe_length]
      have hasτ : ∀ (j : Nat) v, (wipe σ (own.map (·.2)))[j]? = some (some v) → τ[j]? = some (some v) := fun j v e => by
        rw [← wiped] at e
        exact (wipe_some e).1
      have hasυ : ∀ (j : Nat) v, (wipe σ (own.map (·.2)))[j]? = some (some v) → (wipe τ us)[j]? = some (some v) := fun j v e => by
        rw [← wiped] at e
        obtain ⟨e1, e2⟩ := wipe_some e
        rw [wipe_out fun z => e2 (sub j z)]
        exact e1
      cases b with
      | false =>
        simp only [Bool.false_eq_true, if_false] at rest ⊢
        exact next Ij lenτ hasτ rest
      | true =>
        simp only [if_true] at rest ⊢
        refine thnF (pwj.run _ sj τ Hj _ Ij rest) fun _ sk hh => thnF hh fun _ sl hh => ?_
        obtain ⟨itn, fpn, tnn, Jn, Hl, rfl, Il, Tn, stl, freeL, Wn, ⟨k1, wn⟩, turnn⟩ := hh
        have still1 : ∀ {H' : Hp}, (∀ b ∈ fpn, H' b = none) → ∀ b ∈ fpn, FpOk (X.blk sd Hd sc ce fp) ([] ++ pinsAt fp sh.heap) H' b := fun free b mb => ⟨free b mb, (freeL b mb).2⟩
        have inner : codeAny (model X.prog X.w) X.A (.compLoop (two2 el ta sa tb sb ca cb sc pos) 1 (.ref itn) (.ref D) ce) (fun res t => match res with
            | .ok _ => ∃ m, m < k ∧ ∃ i H', Inv (X.blk sd Hd sc ce fp) [] (wipe σ (own.map (·.2))) H' t ∧ tn i t.heap ∧ (∀ b ∈ fp, H' b = none) ∧ Wk i m H'
            | .error _ => False) sl := by
          refine loopB (fun kk t => ∃ j H', Inv (X.blk sd Hd sc ce fp) ([] ++ pinsAt fp sh.heap) (wipe τ us) H' t ∧ tnn j t.heap ∧ (∀ b ∈ fpn, H' b = none) ∧ Wn j kk H') ?_ k1 ⟨0, Hl, Il.weak (wipe_length _ _) (fun j v e => (wipe_some e).1), stl, fun b mb => (freeL b mb).1, wn⟩
          rintro kk sm ⟨j, Hm, Im, stm, freeM, wm⟩
          rcases turnn j kk Hm wm with ⟨stop1, go1⟩ | ⟨goes1, Gn, less1, each1⟩
          · refine thnF (Tn.done (X.blk sd Hd sc ce fp) rfl rfl rfl calm j _ sm (wipe τ us) Hm (fun _ _ => False) Im (still1 freeM) stm stop1) fun r sn hh => ?_
            obtain ⟨rfl, In⟩ := hh
            exact next In (lenτ.trans (wipe_length τ us).symm) hasυ go1
          · refine thnF (Tn.item (X.blk sd Hd sc ce fp) rfl rfl rfl calm j _ sm (wipe τ us) Hm (fun _ _ => False) Im (still1 freeM) stm goes1) fun r sn hh => ?_
            obtain ⟨u1, rfl, owned1⟩ := hh
            refine thnF owned1 fun _ so hh => ?_
            obtain ⟨y, Ho, Io, ry, yl1, sto, freeO⟩ := hh
            have Iq := Io.pinned (still1 freeO) (Tn.obj _ _ sto)
            refine thnF (pgj.run _ so (wipe τ us) Ho y u1 _ Iq ry (each1 y Ho yl1)) fun _ sp hh => ?_
            obtain ⟨υ, Hp_, Ip_, wiped1, rest1⟩ := hh
            refine thnF (ptj.run _ sp υ Hp_ _ Ip_ rest1) fun b1 sq hh => ?_
            obtain ⟨Hq, Iq2, rest1⟩ := hh
            have next1 : ∀ {s' : Shared} {H' : Hp}, Inv (X.blk sd Hd sc ce fp) (([] ++ pinsAt fp sh.heap) ++ pinsAt fpn so.heap) υ H' s' → Gn H' → ∃ m, m < kk ∧ ∃ j H', Inv (X.blk sd Hd sc ce fp) ([] ++ pinsAt fp sh.heap) (wipe τ us) H' s' ∧ tnn j s'.heap ∧ (∀ b ∈ fpn, H' b = none) ∧ Wn j m H' := fun {s' H'} I' go' => by
              obtain ⟨m', lt, w'⟩ := less1 H' go'
              have pinned : ∀ b ∈ fpn, ∀ o, so.heap.get? b = some o → s'.heap.get? b = some o ∧ H' b = none := fun b mb o e =>
                have z := I'.pin (b, o) (List.mem_append_right _ (List.mem_append_right _ (mem_pinsAt mb e)))
                ⟨z.1, z.2.1⟩
              refine ⟨m', lt, j + 1, H', I'.unpinned.weak (by rw [← wiped1, wipe_length]) (fun j v e => by rw [← wiped1] at e; exact (wipe_some e).1), Tn.keep _ _ _ sto fun b mb o e => (pinned b mb o e).1, fun b mb => ?_, w'⟩
              obtain ⟨o, e, _⟩ := Tn.obj _ _ sto b mb
              exact (pinned b mb o e).2
            cases b1 with
            | false =>
              simp only [Bool.false_eq_true, if_false] at rest1 ⊢
              exact next1 Iq2 rest1
            | true =>
              simp only [if_true] at rest1 ⊢
              refine thnF (pe.run _ sq υ Hq _ Iq2 rest1) fun zv sr hh => ?_
              obtain ⟨yv, Hr, Ir, rz, c, S, n, rfl, hasD, room, go'⟩ := hh
              obtain ⟨tk, rfl⟩ := (show ∃ t, zv = Value.int c t from rz)
              exact addI_ok (X := X.blk sd Hd sc ce fp) Ir hasD room fun s' I' => next1 I' go'
        exact startB inner (Tn.self X.A 0 _ _ _ stl inner)
  exact codeAny_compStart_set loop (T.self X.A 0 _ _ _ ste loop)
end

/-! ### a def called by its positional promise -/
section
variable {X : Cx} {CX : CXT} {k : Nat} {f : Addr} {sp : Sp} {E : XK} {x : Str} {e : Expr} {es : List Expr} {t : TA} {p pos : Pos}
theorem pe_callR (F : FnR X.prog X.w X.K X.mg X.base CX k f sp) (hr : Room k X.A) (hg : Gl X x) (hm : X.mg x = some (.ref f)) (hk : PySem.W.keepIn X.K (.ref f) = true) (hx : Passes CX X E)
    (ha : PA X (e :: es) t) (hdb : (x == ("__debug__" : Str)) = false := by decide) (he : starEach (e :: es) X.env = (false, eval e X.env) :: starEach es X.env := by rfl) (hpl : (backTo pos (starEach es X.env)).any (·.1) = false := by rfl) :
    PE X (.Call (.Name x p) (e :: es) [] pos) (fun σ H Q => t σ H fun vs H1 => sp vs H1 Q E) := by
  refine ⟨fun pins s σ H Q I h => ?_⟩
  refine wpAny_Call_Name_kw (ld_glob I hg hm ?_ hdb)
  refine PySem.W.callWith_K (h₀ := X.base) I.ok.mod.kin hk (thn (ha.run pos pins s σ H _ I h) fun us s1 ⟨vs, H1, I1, r, q⟩ => ⟨I1.kIn, ?_⟩) he hpl
  exact wpAny_call (run_fnR F hr hx I1 r q)
end
/-- .. under a name of its module -/
structure AtR (P : Program) (w : World) (K : PySem.W.Frag) (mg : Str → Option Value) (base : Heap) (k : Nat) (x : Str) (sp : Sp) (f : Addr) : Prop where
  ok : FnR P w K mg base CX0 k f sp
  at_ : mg x = some (.ref f)
  kp : PySem.W.keepIn K (.ref f) = true
/-! ### the walk of a tuple or a list, told by a word of its turns -/
theorem wk_tup {K : PySem.W.Frag} {a : Addr} {xs : List V} {H0 : Hp} {Qd : Hp → Prop} {F : V → Hp → (Hp → Prop) → Prop} (Pv : Nat → Hp → Prop) (h0 : Pv 0 H0) (stays : ∀ i H, i ≤ xs.length → Pv i H → SqT K H a xs)
    (each : ∀ i x H, xs[i]? = some x → Pv i H → F x H (Pv (i + 1))) (fin : ∀ H, Pv xs.length H → Qd H) :
    ∃ Wk : Nat → Nat → Hp → Prop, (∃ m, Wk 0 m H0) ∧ ∀ i m Hb, Wk i m Hb → ((Itt K a).stop i Hb ∧ Qd Hb) ∨
      ((Itt K a).go i Hb ∧ ∃ Go : Hp → Prop, (∀ Hc, Go Hc → ∃ m', m' < m ∧ Wk (i + 1) m' Hc) ∧ ∀ x Hc, (Itt K a).yld i Hb x Hc → F x Hc Go) := by
  refine ⟨fun i m H => m = xs.length - i ∧ i ≤ xs.length ∧ Pv i H, ⟨xs.length, by simp, Nat.zero_le _, h0⟩, ?_⟩
  rintro i m H ⟨rfl, hi, pv⟩
  have sq := stays i H hi pv
  by_cases lt : i < xs.length
  · exact .inr ⟨⟨xs, xs[i], sq, by simp [lt]⟩, Pv (i + 1), fun Hc p' => ⟨xs.length - (i + 1), by omega, rfl, lt, p'⟩, fun x Hc yl => by
      obtain ⟨rfl, yl⟩ := yl
      exact each i x _ (yl xs sq) pv⟩
  · obtain rfl : i = xs.length := by omega
    exact .inl ⟨⟨xs, sq, Nat.le_refl _⟩, fin H pv⟩
theorem wk_lst {K : PySem.W.Frag} {a : Addr} {xs : List V} {H0 : Hp} {Qd : Hp → Prop} {F : V → Hp → (Hp → Prop) → Prop} (Pv : Nat → Hp → Prop) (h0 : Pv 0 H0) (stays : ∀ i H, i ≤ xs.length → Pv i H → SqL K H a xs)
    (each : ∀ i x H, xs[i]? = some x → Pv i H → F x H (Pv (i + 1))) (fin : ∀ H, Pv xs.length H → Qd H) :
    ∃ Wk : Nat → Nat → Hp → Prop, (∃ m, Wk 0 m H0) ∧ ∀ i m Hb, Wk i m Hb → ((Itl K a).stop i Hb ∧ Qd Hb) ∨
      ((Itl K a).go i Hb ∧ ∃ Go : Hp → Prop, (∀ Hc, Go Hc → ∃ m', m' < m ∧ Wk (i + 1) m' Hc) ∧ ∀ x Hc, (Itl K a).yld i Hb x Hc → F x Hc Go) := by
  refine ⟨fun i m H => m = xs.length - i ∧ i ≤ xs.length ∧ Pv i H, ⟨xs.length, by simp, Nat.zero_le _, h0⟩, ?_⟩
  rintro i m H ⟨rfl, hi, pv⟩
  have sq := stays i H hi pv
  by_cases lt : i < xs.length
  · exact .inr ⟨⟨xs, xs[i], sq, by simp [lt]⟩, Pv (i + 1), fun Hc p' => ⟨xs.length - (i + 1), by omega, rfl, lt, p'⟩, fun x Hc yl => by
      obtain ⟨rfl, yl⟩ := yl
      exact each i x _ (yl xs sq) pv⟩
  · obtain rfl : i = xs.length := by omega
    exact .inl ⟨⟨xs, sq, Nat.le_refl _⟩, fin H pv⟩
/-! ### the moments that at least one of some things changes -/
structure Blt5 (mg : Str → Option Value) : Prop where
  sorted : mg "sorted" = none
theorem Tups.append {H : Hp} : ∀ {ts us : List Addr} {ms ns : List (Int × Int)}, Tups H ts ms → Tups H us ns → Tups H (ts ++ us) (ms ++ ns)
  | [], _, [], _, _, h => h
  | _ :: _, _, _ :: _, _, g, h => ⟨g.1, Tups.append g.2 h⟩
/-- things with changes, told by Th -/
def spChOf (Th : Hp → Addr → List (Int × Int) → Prop) : Sp := fun vs H Q _ => ∃ (x : Addr) (ms : List (Int × Int)), vs = [.ref x] ∧ Th H x ms ∧
  ∀ (H' : Hp) (q : Addr) (ts : List Addr), Same H H' → H q = none → H' q = some (.lst (ts.map V.ref)) → Tups H' ts ms → Q (.ref q) H'
structure ThOk (C : Addr) (Th : Hp → Addr → List (Int × Int) → Prop) : Prop where
  same : ∀ {H H' x ms}, Th H x ms → Same H H' → Th H' x ms
  ob : ∀ {H x ms}, Th H x ms → ∃ dx fs, H x = some (.ins C dx fs)
abbrev allOf (as : List (Addr × List (Int × Int))) : List (Int × Int) := as.flatMap (·.2)
def spMoms0 (Th : Hp → Addr → List (Int × Int) → Prop) : Sp := fun vs H Q _ => ∃ (p : Addr) (as : List (Addr × List (Int × Int))), vs = [.ref p] ∧ H p = some (.tup (as.map fun z => V.ref z.1)) ∧ (∀ z ∈ as, Th H z.1 z.2) ∧ (allOf as).length ≤ 60 ∧
  ∀ (H' : Hp) (q : Addr) (ks : List Int), Same H H' → H q = none → ks.Pairwise (· < ·) → (∀ k, k ∈ ks ↔ k ∈ (allOf as).map (·.1)) → ks.length ≤ (allOf as).length → H' q = some (.lst (ks.map V.int)) → Q (.ref q) H'
def spMoms (Th : Hp → Addr → List (Int × Int) → Prop) : Sp := fun vs H Q _ => ∃ as : List (Addr × List (Int × Int)), vs = as.map (fun z => V.ref z.1) ∧ as.length ≤ 900 ∧ (∀ z ∈ as, Th H z.1 z.2) ∧ (allOf as).length ≤ 60 ∧
  ∀ (H' : Hp) (q : Addr) (ks : List Int), Same H H' → H q = none → ks.Pairwise (· < ·) → (∀ k, k ∈ ks ↔ k ∈ (allOf as).map (·.1)) → ks.length ≤ (allOf as).length → H' q = some (.lst (ks.map V.int)) → Q (.ref q) H'
section
variable {P : Program} {w : World} {K : PySem.W.Frag} {mg : Str → Option Value} {base : Heap}
theorem scChanged : FnScope ["things", "thing", "moment", "_"] ((([] : List Str)) ++ [("things" : Str)]) (defScope sChanged) := ⟨rfl, rfl, rfl, by decide +kernel, rfl, by decide +kernel, by decide +kernel⟩
theorem allOf_succ {as : List (Addr × List (Int × Int))} {i : Nat} {z : Addr × List (Int × Int)} (h : as[i]? = some z) : allOf (as.take (i + 1)) = allOf (as.take i) ++ z.2 := by
  rw [List.take_add_one, h, allOf, List.flatMap_append]
  simp
theorem allOf_le {as : List (Addr × List (Int × Int))} {i : Nat} : (allOf (as.take i)).length ≤ (allOf as).length := by
  have e : allOf as = allOf (as.take i) ++ allOf (as.drop i) := by rw [allOf, allOf, allOf, ← List.flatMap_append, List.take_append_drop]
  rw [e, List.length_append]
  omega
theorem ok_moms {f C p3 g3 : Addr} {fd d3 : FuncData} {Th : Hp → Addr → List (Int × Int) → Prop} (F : Fun K "changed_moments" "changed_moments" sChanged f fd) (zc : Cls K C) (th : ThOk C Th) (T5 : Blt5 mg) (W3 : Pp P w K mg base C "changes" (spChOf Th) p3 g3 d3) : FnR P w K mg base CX0 3 f (spMoms Th) := by
  obtain ⟨oc, od, kV, doc, pm, an, cdv, ct, osl, rfl, lk, hcd⟩ := F.ex
  refine FnR.imp (StX.fn_star (ps := []) (sp := spMoms0 Th) lk hcd scChanged (fun _ _ _ _ _ _ _ _ _ _ _ z => z) (fun us rest hl => ?_) fun A outer s H vs Q E hr h => ?_) (fun vs H Q E h => ?_)
  · match us, hl with
    | [], _ => match rest with
      | [] => rfl
      | _ :: _ => rfl
  · obtain ⟨p, as, rfl, hp, tas, le, k⟩ := h
    suffices hh : ∃ t, PSs (cxOf CX0 P w K mg base ["things", "thing", "moment", "_"] "changed_moments" (defScope sChanged) f cdv A outer s H E).nox (defBody sChanged) t ∧ t { nx := fun _ H' => Q .non H', rt := Q } (start ["things", "thing", "moment", "_"] [V.ref p]) H by
      obtain ⟨t, h1, h2⟩ := hh
      exact ⟨t, h1.nox, h2⟩
    refine ⟨_, pss_one (ps_ret (pe_callB (cr_sortedSet rfl) (by rfl) T5.sorted (by decide +kernel) (pa_cons (pe_sc2 (own := [("thing", 1), ("moment", 2), ("_", 3)]) (us := [2, 3]) (g := gName 1) (gj := gTup K 2 (gCons (gName 2) (gCons (gName 3) gNil))) (tt := tYes) (tj := tYes) (te := tVar 2) (wj := iList K (tProp C (spChOf Th) [] E0 (tVar 1))) rfl scChanged.nd
        (pi_tup (pv 0))
        (blkOk_by (N := ["things", "thing", "moment", "_"]) (sc := defScope sChanged) (by decide +kernel)) (by decide)
        (fun _ _ _ _ _ => pg_name (i := 1) scChanged.nd rfl (.inl rfl)) (fun _ _ _ _ _ => pts_nil)
        (fun _ _ _ _ _ => pi_list (pe_prop (pv 1) zc W3.of W3.ok (hr.mono (by decide)) W3.bi .nil pass0 rfl))
        (fun _ _ _ _ _ => pg_tup rfl (pgs_cons (pg_name (i := 2) scChanged.nd rfl (.inl rfl)) (pgs_cons (pg_name (i := 3) scChanged.nd rfl (.inl rfl)) pgs_nil))) (fun _ _ _ _ _ => pts_nil)
        (fun _ _ _ _ _ => pv 2)) pa_nil))), ?_⟩
    refine ⟨_, rfl, p, rfl, ⟨_, SqT.of hp⟩, fun D hD => wk_tup (K := K) (a := p) (xs := as.map fun z => V.ref z.1) (fun i J => ∃ (S : Int → Bool) (n : Nat), J D = some (SetO w D S n) ∧ (∀ k, S k = true ↔ k ∈ (allOf (as.take i)).map (·.1)) ∧ n ≤ (allOf (as.take i)).length ∧ Same H J)
      ⟨_, 0, upd_same, fun k => by simp, Nat.zero_le _, same_new hD⟩ (fun i J _ ⟨_, _, _, _, _, h⟩ => SqT.of (h _ _ hp)) ?_ ?_⟩
    · rintro i y J hi ⟨S, n, hJ, hS, hn, sJ⟩
      rw [List.getElem?_map] at hi
      cases hz : as[i]? with
      | none => rw [hz] at hi; cases hi
      | some z =>
      rw [hz] at hi
      obtain rfl := Option.some.inj hi
      have tz := th.same (tas z (List.mem_of_getElem? hz)) sJ
      obtain ⟨dx, fs, hx⟩ := th.ob tz
      have es := allOf_succ hz
      have le1 := allOf_le (as := as) (i := i + 1)
      rw [es, List.length_append] at le1
      refine ⟨rfl, _, rfl, z.1, dx, fs, rfl, hx, ⟨z.1, z.2, rfl, tz, fun H1 q1 ts s1 nq1 h1 tp => ?_⟩⟩
      have tl := tp.len
      have ne : q1 ≠ D := fun e => by rw [e, hJ] at nq1; cases nq1
      refine ⟨q1, rfl, ⟨_, SqL.of h1⟩, wk_lst (K := K) (a := q1) (xs := ts.map V.ref) (fun j I => ∃ (S : Int → Bool) (n : Nat), I D = some (SetO w D S n) ∧ (∀ k, S k = true ↔ k ∈ (allOf (as.take i) ++ z.2.take j).map (·.1)) ∧ n ≤ (allOf (as.take i)).length + j ∧ Fr D H1 I)
        ⟨S, n, s1 _ _ hJ, fun k => by rw [hS k]; simp, by omega, Fr.refl _ _⟩ (fun j I _ ⟨_, _, _, _, _, h⟩ => SqL.of (h _ _ h1 ne)) ?_ ?_⟩
      · rintro j y I hj ⟨S2, n2, hI, hS2, hn2, fI⟩
        have hj2 : j < ts.length := by
          have := (List.getElem?_eq_some_iff.mp hj).1
          simpa using this
        rw [List.getElem?_map, List.getElem?_eq_getElem hj2] at hj
        obtain rfl := Option.some.inj hj
        obtain ⟨m, hm, hm2⟩ := tp.get (List.getElem?_eq_getElem hj2)
        have nt : ts[j] ≠ D := fun e => by
          rw [e, s1 _ _ hJ] at hm2
          cases hm2
        have et : z.2.take (j + 1) = z.2.take j ++ [m] := by rw [List.take_add_one, hm]; rfl
        refine ⟨_, _, rfl, .inl (.inl (fI _ _ hm2 nt)), rfl, _, _, rfl, _, [], rfl, rfl, rfl, ?_⟩
        refine ⟨_, rfl, m.1, S2, n2, rfl, hI, (by show n2 + 1 < 4096; omega), _, _, upd_same, fun k => ?_, ?_, fI.trans Fr.at_⟩
        · rw [et, ← List.append_assoc, List.map_append, List.mem_append, ← hS2 k]
          simp
        · split <;> omega
      · rintro I ⟨S2, n2, hI, hS2, hn2, fI⟩
        rw [List.length_map] at hn2 hS2
        rw [tl, List.take_length, ← es] at hS2
        refine ⟨S2, n2, hI, hS2, ?_, fun c o e => fI _ _ (s1 _ _ (sJ _ _ e)) (ne_of_none e hD)⟩
        rw [es, List.length_append]
        omega
    · rintro J ⟨S, n, hJ, hS, hn, sJ⟩
      rw [List.length_map] at hn hS
      rw [List.take_length] at hS hn
      refine ⟨D, S, n, rfl, hJ, by omega, fun ks p asc mem len np => ?_⟩
      have s4 := same_new (o := .lst (ks.map V.int)) np
      exact k _ p ks (sJ.trans s4) (sJ.free np) asc (fun k => by rw [mem k, hS k]) (by omega) upd_same
  · obtain ⟨as, rfl, la, tas, le, k⟩ := h
    refine ⟨[], as.map (fun z => V.ref z.1), rfl, rfl, by rw [List.length_map, sizeLine_eq]; omega, fun p hp => ⟨p, as, rfl, upd_same, fun z hz => th.same (tas z hz) (same_new hp), le, fun H' q ks s nq => k H' q ks ((same_new hp).trans s) ?_⟩⟩
    exact (same_new hp).free nq
/-- .. of two calendars -/
def spChanged (C : Addr) : Sp := fun vs H Q _ => ∃ (a b l d l' d' : Addr) (ps qs : List Int) (ms ns : List (Int × Int)), vs = [.ref a, .ref b] ∧ CalAt C H a l d ps ms ∧ CalAt C H b l' d' qs ns ∧ ms.length + ns.length ≤ 60 ∧
  ∀ (H' : Hp) (q : Addr) (ks : List Int), Same H H' → H q = none → ks.Pairwise (· < ·) → (∀ k, k ∈ ks ↔ k ∈ (ms ++ ns).map (·.1)) → ks.length ≤ ms.length + ns.length → H' q = some (.lst (ks.map V.int)) → Q (.ref q) H'
def ThC (C : Addr) : Hp → Addr → List (Int × Int) → Prop := fun H x ms => ∃ (l d : Addr) (ps : List Int), CalAt C H x l d ps ms
theorem thC {C : Addr} : ThOk C (ThC C) := ⟨fun ⟨l, d, ps, h⟩ s => ⟨l, d, ps, h.same s⟩, fun ⟨l, d, ps, h⟩ => by
  obtain ⟨dx, hx⟩ := h.ob
  exact ⟨dx, _, hx⟩⟩
theorem ok_changed {f C p3 g3 : Addr} {fd d3 : FuncData} (F : Fun K "changed_moments" "changed_moments" sChanged f fd) (Z : Cal K mg C) (T5 : Blt5 mg) (W3 : Pp P w K mg base C "changes" (spChanges C) p3 g3 d3) : FnR P w K mg base CX0 3 f (spChanged C) := by
  have W : Pp P w K mg base C "changes" (spChOf (ThC C)) p3 g3 d3 := ⟨W3.of, W3.ok.imp (fun vs H Q E ⟨x, ms, e, ⟨l, d, ps, h⟩, q⟩ => ⟨x, l, d, ps, ms, e, h, fun H' b ts s nb _ _ => q H' b ts s nb⟩), W3.bi⟩
  refine (ok_moms F Z.cl thC T5 W).imp fun vs H Q E h => ?_
  obtain ⟨a, b, l, d, l', d', ps, qs, ms, ns, rfl, c1, c2, le, k⟩ := h
  refine ⟨[(a, ms), (b, ns)], rfl, (by show 2 ≤ 900; decide), fun z hz => ?_, ?_, fun H' q ks s nq asc mem len h => k H' q ks s nq asc (fun j => ?_) ?_ h⟩
  · rcases List.mem_cons.mp hz with rfl | hz
    · exact ⟨l, d, ps, c1⟩
    · rcases List.mem_cons.mp hz with rfl | hz
      · exact ⟨l', d', qs, c2⟩
      · cases hz
  · simp [allOf]
    omega
  · rw [mem j]
    simp [allOf]
  · simpa [allOf] using len
end

/-! ### max and min of a pair of ints -/
def rMaxT (K : PySem.W.Frag) : List V → Hp → VK → Prop := fun vs H Q => ∃ (t : Addr) (i j : Int), vs = [.ref t] ∧ SqT K H t [.int i, .int j] ∧ Q (.int (if i < j then j else i)) H
def rMinT (K : PySem.W.Frag) : List V → Hp → VK → Prop := fun vs H Q => ∃ (t : Addr) (i j : Int), vs = [.ref t] ∧ SqT K H t [.int i, .int j] ∧ Q (.int (if j < i then j else i)) H
section
variable {X : Cx}
theorem cr_maxT (hc : X.calm = true) (hu : X.A.units + 64 < cLine) : CallR X (.builtin "max") (rMaxT X.K) := by
  intro pins s σ H vs us Q I r h
  obtain ⟨t, i, j, rfl, hs, q⟩ := h
  obtain ⟨its, rv, ht, _⟩ := I.tuple hs
  rw [Vals.ref1 r]
  have hold : PySem.W.HoldAll s.heap its [i, j] := by
    cases rv with
    | cons a b =>
      cases b with
      | cons a' b' =>
        cases b'
        obtain ⟨u, rfl⟩ := a
        obtain ⟨u', rfl⟩ := a'
        exact .cons (PySem.W.holds_int i u) (.cons (PySem.W.holds_int j u') ⟨_, .nil⟩)
  refine PySem.W.max_tuple_datum (α := Int) (x := i) (xs := [j]) (I.ok.hd hc) ht hold (by show X.A.units + 1 + 0 < cLine; omega) fun _ v h' tk _ hv hk => ?_
  obtain ⟨u, rfl⟩ := PySem.W.int_of_holds hv
  have e : PySem.W.maxOf i [j] = if i < j then j else i := by
    show (if decide (i < j) = true then j else i) = _
    by_cases c : i < j
    · rw [if_pos (decide_eq_true c), if_pos c]
    · rw [if_neg (by rw [decide_eq_false c]; exact Bool.false_ne_true), if_neg c]
  rw [e]
  exact ⟨.int _, H, I.kept hk, ⟨_, rfl⟩, q⟩
theorem cr_minT (hc : X.calm = true) (hu : X.A.units + 64 < cLine) : CallR X (.builtin "min") (rMinT X.K) := by
  intro pins s σ H vs us Q I r h
  obtain ⟨t, i, j, rfl, hs, q⟩ := h
  obtain ⟨its, rv, ht, _⟩ := I.tuple hs
  rw [Vals.ref1 r]
  have hold : PySem.W.HoldAll s.heap its [i, j] := by
    cases rv with
    | cons a b =>
      cases b with
      | cons a' b' =>
        cases b'
        obtain ⟨u, rfl⟩ := a
        obtain ⟨u', rfl⟩ := a'
        exact .cons (PySem.W.holds_int i u) (.cons (PySem.W.holds_int j u') ⟨_, .nil⟩)
  refine PySem.W.min_tuple_datum (α := Int) (x := i) (xs := [j]) (I.ok.hd hc) ht hold (by show X.A.units + 1 + 0 < cLine; omega) fun _ v h' tk _ hv hk => ?_
  obtain ⟨u, rfl⟩ := PySem.W.int_of_holds hv
  have e : PySem.W.minOf i [j] = if j < i then j else i := by
    show (if decide (j < i) = true then j else i) = _
    by_cases c : j < i
    · rw [if_pos (decide_eq_true c), if_pos c]
    · rw [if_neg (by rw [decide_eq_false c]; exact Bool.false_ne_true), if_neg c]
  rw [e]
  exact ⟨.int _, H, I.kept hk, ⟨_, rfl⟩, q⟩
end

/-! ### list(zip(a, b)) -/
/-- the pairs that stand at the addresses ts -/
def PairsAt (H : Hp) (xs ys : List V) (ts : List Addr) : Prop := ∀ (j : Nat) (t : Addr), ts[j]? = some t → ∃ x y, xs[j]? = some x ∧ ys[j]? = some y ∧ H t = some (.tup [x, y])
theorem PairsAt.fr {S : Addr} {H H' : Hp} {xs ys : List V} {ts : List Addr} (p : PairsAt H xs ys ts) (f : Fr S H H') (ns : S ∉ ts) : PairsAt H' xs ys ts := fun j t e => by
  obtain ⟨x, y, e1, e2, e3⟩ := p j t e
  exact ⟨x, y, e1, e2, f _ _ e3 fun q => ns (q ▸ List.mem_of_getElem? e)⟩
/-- how a zip of two lists stands behind i of its items -/
structure ZipSt (H : Hp) (h : Heap) (z TI TO i1 i2 a b : Addr) (i : Nat) : Prop where
  lt : ∀ c ∈ [z, TI, TO, i1, i2], c < h.objs.size
  ti : IsPair h TI (.ref i1) (.ref i2)
  l1 : h.IsListIter i1 a i
  l2 : h.IsListIter i2 b i
  out : (IsZip h z TI TO .none ∧ ∃ u v, IsPair h TO u v) ∨ ∃ T f us, PySem.IsZipHeld h z TI TO T f ∧ H T = some (.tup us)
section
variable {X : Cx} {pins : List (Addr × Obj)} {σ : L2.St}
theorem zip_loop {z TI TO i1 i2 a b S : Addr} {A : Around} {R : Result → Shared → Prop} {xs ys : List V} {H1 : Hp} (D : ZipApart z TI TO i1 i2 a b) (hA : A.handled = none) (len : xs.length = ys.length) (short : xs.length ≤ sizeLine) (res : Value)
    (aS : a ≠ S) (bS : b ≠ S) (newS : H1 S = none)
    (fin : ∀ (s' : Shared) (H' : Hp) (ts : List Addr), Inv X pins σ H' s' → Same H1 H' → H' S = some (.lst (ts.map V.ref)) → ts.length = xs.length → PairsAt H' xs ys ts → (∀ t ∈ ts, H1 t = none) → S ∉ ts → R (.ok (.ret res)) s') :
    ∀ (k i : Nat) (s : Shared) (H : Hp) (ts : List Addr), xs.length - i = k → ts.length = i → i ≤ xs.length → Inv X pins σ H s → (∀ c ∈ [z, TI, TO, i1, i2], FpOk X pins H c) → ZipSt H s.heap z TI TO i1 i2 a b i →
      H S = some (.lst (ts.map V.ref)) → H a = some (.lst xs) → H b = some (.lst ys) → Same H1 H → PairsAt H xs ys ts → (∀ t ∈ ts, H1 t = none) → S ∉ ts →
      codeAny (model X.prog X.w) A (.builtin "list.extend.loop" ⟨[.ref S, .ref z, res], []⟩) R s := by
  intro k
  induction k with
  | zero =>
    intro i s H ts hk hl hi I free st hS ha hb same pairs new ns
    obtain ⟨_, its, _, r1, e1, p1⟩ := I.lstM ha
    obtain ⟨_, its2, _, r2, e2, p2⟩ := I.lstM hb
    have over : its.toArray[i]? = none ∨ its2.toArray[i]? = none := .inl (by simp; omega)
    refine codeAny_builtin PySem.F.entry_extend_loop ?_
    rw [Around.under_plainId PySem.F.plain_extend_loop _]
    show wpAny _ A.in1 (pyNext (.ref z) >>= _) _ _ _
    have ends : ∀ h' : Heap, (∀ c o, c ∉ [z, TI, TO, i1, i2] → s.heap.get? c = some o → h'.get? c = some o) → R (.ok (.ret res)) { s with heap := h' } := fun h' keep =>
      fin _ H ts (I.turnedL (t' := s.toks) (ch := [z, TI, TO, i1, i2]) keep free) same hS (by omega) pairs new ns
    rcases st.out with ⟨hz, u, v, hTO⟩ | ⟨T, f, us, hz, hT⟩
    · exact wpAny_bind (wpAny_pyNext_zip_end (A := A.in1) hA D hz st.ti hTO st.l1 st.l2 ⟨_, p1, rfl, _, rfl⟩ ⟨_, p2, rfl, _, rfl⟩ over fun h' keep => wpAny_pure (ends h' fun c o nc e => keep c o (fun q => nc (by simp [q])) (fun q => nc (by simp [q])) (fun q => nc (by simp [q])) (fun q => nc (by simp [q])) e))
    · obtain ⟨_, _, _, o, eo, _⟩ := (show ObjOk X.prog X.w H s.heap T (.tup us) from I.hok T _ hT)
      exact wpAny_bind (PySem.wpAny_pyNext_zip_end_held (A := A.in1) hA D hz eo st.ti st.l1 st.l2 ⟨_, p1, rfl, _, rfl⟩ ⟨_, p2, rfl, _, rfl⟩ over fun h' keep => wpAny_pure (ends h' fun c o nc e => keep c o (fun q => nc (by simp [q])) (fun q => nc (by simp [q])) (fun q => nc (by simp [q])) e))
  | succ k ih =>
    intro i s H ts hk hl hi I free st hS ha hb same pairs new ns
    obtain ⟨_, its, _, r1, e1, p1⟩ := I.lstM ha
    obtain ⟨_, its2, _, r2, e2, p2⟩ := I.lstM hb
    have lt : i < xs.length := by omega
    obtain ⟨u, hu, ru⟩ := r1.get (List.getElem?_eq_getElem lt)
    obtain ⟨v, hv, rv⟩ := r2.get (List.getElem?_eq_getElem (show i < ys.length by omega))
    refine codeAny_builtin PySem.F.entry_extend_loop ?_
    rw [Around.under_plainId PySem.F.plain_extend_loop _]
    show wpAny _ A.in1 (pyNext (.ref z) >>= _) _ _ _
    have fresh : H s.heap.objs.size = none := I.hok.fresh (Nat.le_refl _)
    -- a new pair was given out
    have step : ∀ h' : Heap, (∀ c o, c ∉ [z, TI, TO, i1, i2] → s.heap.get? c = some o → h'.get? c = some o) → IsPair h' s.heap.objs.size u v → h'.objs.size = s.heap.objs.size + 1 → IsPair h' TI (.ref i1) (.ref i2) → h'.IsListIter i1 a (i + 1) → h'.IsListIter i2 b (i + 1) →
        ((IsZip h' z TI TO .none ∧ ∃ u v, IsPair h' TO u v) ∨ ∃ T f us, PySem.IsZipHeld h' z TI TO T f ∧ (upd H s.heap.objs.size (.tup [xs[i], ys[i]])) T = some (.tup us)) →
        wpAny (model X.prog X.w) A.in1 (updateSeq S (·.push (.ref s.heap.objs.size)) >>= fun _ => again (.builtin "list.extend.loop" ⟨[.ref S, .ref z, res], []⟩))
          (fun fn s' => match fn with | .done f => R (.ok f) s' | .again c' => c'.quiet = true ∧ codeAny (model X.prog X.w) A c' R s') (fun e s' => R (.error e) s') { s with heap := h' } := by
      intro h' keep pr size ti j1 j2 out
      have nw : ObjOk X.prog X.w (upd H s.heap.objs.size (.tup [xs[i], ys[i]])) h' s.heap.objs.size (.tup [xs[i], ys[i]]) := ⟨by show 2 ≤ sizeLine; decide, [u, v], .cons ru (.cons rv .nil), ⟨_, pr, rfl, _, rfl⟩⟩
      have J : Inv X pins σ (upd H s.heap.objs.size (.tup [xs[i], ys[i]])) { s with heap := h' } := I.turnedNew (t' := s.toks) (ch := [z, TI, TO, i1, i2]) keep free (Nat.le_refl _) nw
      have grow := same_new (o := .tup [xs[i], ys[i]]) fresh
      obtain ⟨_, acc, c, ra, ea, pa⟩ := J.lstM (grow _ _ hS)
      have J2 := J.lset (f := (·.push (Value.ref s.heap.objs.size))) (its' := acc ++ [Value.ref s.heap.objs.size]) (ys := (ts ++ [s.heap.objs.size]).map V.ref) (t' := s.toks) (grow _ _ hS) pa (by simp) (by rw [List.map_append]; exact ra.append (.cons rfl .nil)) (by rw [List.length_map, List.length_append, List.length_singleton]; omega)
      have neS : s.heap.objs.size ≠ S := fun q => by rw [q, hS] at fresh; cases fresh
      have fS : Fr S H (upd (upd H s.heap.objs.size (.tup [xs[i], ys[i]])) S (.lst ((ts ++ [s.heap.objs.size]).map V.ref))) := fun c o e g => by rw [upd_ne g]; exact grow _ _ e
      have up : ∀ c o, c ≠ S → h'.get? c = some o → (h'.update S (Obj.mapSeq (·.push (Value.ref s.heap.objs.size)))).get? c = some o := fun c o g e => (Heap.get?_update_other _ _ (Ne.symm g)).trans e
      have off : ∀ c ∈ [z, TI, TO, i1, i2], c ≠ S := fun c mc q => by
        have := (free c mc).1
        rw [q, hS] at this
        cases this
      refine wpAny_bind (wpAny_updateSeq pa rfl (wpAny_pure ⟨plainId_quiet PySem.F.plain_extend_loop _, ih (i + 1) _ _ (ts ++ [s.heap.objs.size]) (by omega) (by rw [List.length_append, hl]; rfl) lt J2 (fun c mc => ?_) ⟨fun c mc => ?_, up _ _ (off _ (by simp)) ti, ?_, ?_, ?_⟩ upd_same (fS _ _ ha aS) (fS _ _ hb bS) (fun c o e => fS _ _ (same _ _ e) fun q => by rw [q, newS] at e; cases e) ?_ ?_ ?_⟩)
        (by rw [List.size_toArray, ← ea, List.length_map]; omega) (by show (acc.toArray.push _).size ≤ sizeLine + 1; rw [Array.size_push, List.size_toArray, ← ea, List.length_map]; omega))
      · refine ⟨?_, (free c mc).2⟩
        have nc : c ≠ s.heap.objs.size := Nat.ne_of_lt (st.lt c mc)
        rw [upd_ne (off c mc), upd_ne nc]
        exact (free c mc).1
      · show c < (h'.update S _).objs.size
        rw [Heap.size_update, size]
        exact Nat.lt_succ_of_lt (st.lt c mc)
      · exact j1.at fun o e => up _ _ (off _ (by simp)) e
      · exact j2.at fun o e => up _ _ (off _ (by simp)) e
      · rcases out with ⟨hz, u, v, hTO⟩ | ⟨T, f, us, hz, hT⟩
        · exact .inl ⟨up _ _ (off _ (by simp)) hz, u, v, up _ _ (off _ (by simp)) hTO⟩
        · refine .inr ⟨T, f, us, up _ _ (off _ (by simp)) hz, ?_⟩
          rw [upd_ne fun q => by rw [q, grow _ _ hS] at hT; cases hT]
          exact hT
      · intro j t e
        rcases Nat.lt_trichotomy j ts.length with g | g | g
        · rw [List.getElem?_append_left g] at e
          exact (pairs.fr fS ns) j t e
        · subst g
          have : s.heap.objs.size = t := by simpa using e
          subst this
          refine ⟨_, _, by rw [hl]; exact List.getElem?_eq_getElem lt, by rw [hl]; exact List.getElem?_eq_getElem (by omega), ?_⟩
          rw [upd_ne neS, upd_same]
        · rw [List.getElem?_eq_none (by rw [List.length_append, List.length_singleton]; omega)] at e
          cases e
      · intro t mt
        rcases List.mem_append.mp mt with g | g
        · exact new t g
        · rw [List.mem_singleton.mp g]
          cases q : H1 s.heap.objs.size with
          | none => rfl
          | some o =>
            rw [same _ _ q] at fresh
            cases fresh
      · intro mt
        rcases List.mem_append.mp mt with g | g
        · exact ns g
        · exact neS (List.mem_singleton.mp g).symm
    rcases st.out with ⟨hz, u0, v0, hTO⟩ | ⟨T, f, us, hz, hT⟩
    · refine wpAny_bind (wpAny_pyNext_zip_item (A := A.in1) D hz st.ti hTO st.l1 st.l2 ⟨_, p1, rfl, _, rfl⟩ ⟨_, p2, rfl, _, rfl⟩ (by simpa using hu) (by simpa using hv) fun h' z' TO' j1 j2 pr size keep => ?_)
      refine step h' (fun c o nc e => keep c o (fun q => nc (by simp [q])) (fun q => nc (by simp [q])) (fun q => nc (by simp [q])) (fun q => nc (by simp [q])) e) pr size (keep _ _ D.TIz D.TITO D.TIi1 D.TIi2 st.ti) j1 j2 (.inr ⟨s.heap.objs.size, false, _, z', upd_same⟩)
    · obtain ⟨_, _, _, o, eo, _⟩ := (show ObjOk X.prog X.w H s.heap T (.tup us) from I.hok T _ hT)
      refine wpAny_bind (PySem.wpAny_pyNext_zip_item_held (A := A.in1) D hz eo st.ti st.l1 st.l2 ⟨_, p1, rfl, _, rfl⟩ ⟨_, p2, rfl, _, rfl⟩ (by simpa using hu) (by simpa using hv) fun h' z' j1 j2 pr size keep => ?_)
      refine step h' (fun c o nc e => keep c o (fun q => nc (by simp [q])) (fun q => nc (by simp [q])) (fun q => nc (by simp [q])) e) pr size (keep _ _ D.TIz D.TIi1 D.TIi2 st.ti) j1 j2 (.inr ⟨T, true, us, z', ?_⟩)
      rw [upd_ne fun q => by rw [q, fresh] at hT; cases hT]
      exact hT
end

theorem zip_len0 : typeLookup (.type "zip") "__len__" = pure none := by rw [typeLookup_type, builtinLookup_eq_fast]; kernel_rfl
theorem zip_hint0 : typeLookup (.type "zip") "__length_hint__" = pure none := by rw [typeLookup_type, builtinLookup_eq_fast]; kernel_rfl
def tListZip (ta : TA) : TE := fun σ H Q => ta σ H fun vs H1 => ∃ (a b : Addr) (xs ys : List V), vs = [.ref a, .ref b] ∧ H1 a = some (.lst xs) ∧ H1 b = some (.lst ys) ∧ xs.length = ys.length ∧
  ∀ (H' : Hp) (S : Addr) (ts : List Addr), Same H1 H' → H1 S = none → H' S = some (.lst (ts.map V.ref)) → ts.length = xs.length → PairsAt H' xs ys ts → (∀ t ∈ ts, H1 t = none) → S ∉ ts → Q (.ref S) H'
section
variable {X : Cx}
theorem pe_listZip {e e2 : Expr} {ta : TA} {p p2 q pos : Pos} (calm : X.calm = true) (hg : Gl X "list") (hm : X.mg "list" = none) (hv : bootBuiltins "list" = some (.type "list")) (hg2 : Gl X "zip") (hm2 : X.mg "zip" = none) (ha : PA X [e, e2] ta)
    (hs2 : starEach [e, e2] X.env = (false, eval e X.env) :: starEach [e2] X.env := by rfl) (hpl : (backTo q (starEach [e2] X.env)).any (·.1) = false := by rfl)
    (hs : starEach [.Call (.Name "zip" p2) [e, e2] [] q] X.env = (false, eval (.Call (.Name "zip" p2) [e, e2] [] q) X.env) :: starEach [] X.env := by rfl) :
    PE X (.Call (.Name "list" p) [.Call (.Name "zip" p2) [e, e2] [] q] [] pos) (tListZip ta) := by
  refine ⟨fun pins s σ H Q I h => ?_⟩
  refine wpAny_Call_Name_kw (ld_blt I hg hm hv ?_)
  refine PyProof.Rows.callWith_type1 ?_ hs rfl
  rw [hs]
  show wpAny _ _ (spliced ((false, eval (.Call (.Name "zip" p2) [e, e2] [] q) X.env) :: backTo pos (starEach [] X.env))) _ _ s
  refine Calls.spliced_cons ?_
  refine Call_ (ld_blt I hg2 hm2 PyProof.Rows.boot_zip (PyProof.Rows.callWith_type1 (thn (ha.run q pins s σ H _ I h) fun us s1 hh => ?_) hs2 hpl))
  obtain ⟨vs, H1, I1, r1, a, b, xs, ys, ex, hqa, hqb, len, k⟩ := hh
  subst ex
  cases r1 with
  | cons r rr =>
    cases rr with
    | cons r' rr =>
      cases rr
      cases r
      cases r'
      obtain ⟨zx, its, _, rv, _, p1⟩ := I1.lstM hqa
      obtain ⟨_, its2, _, rv2, _, p2⟩ := I1.lstM hqb
      have la := Heap.lt_size p1
      have lb := Heap.lt_size p2
      refine call_zip_2 ⟨_, p1, rfl, _, rfl⟩ ⟨_, p2, rfl, _, rfl⟩ fun h' hz hTI hTO j1 j2 size keep => ?_
      refine Calls.spliced_nil ?_
      have I2 : Inv X pins σ H1 { s1 with heap := h' } := I1.kept (t' := s1.toks) keep
      have zS : h'.objs.size ≠ s1.heap.objs.size + 4 := by omega
      refine callType_codes (Q₁ := fun obj s₁ => obj = .ref h'.objs.size ∧ s₁ = { s1 with heap := h'.push { cls := .type "list", data := .seq #[] } }) F.called_list (F.typeCall_list_1 _) F.entry_list_init
        (code_list_new _ ⟨rfl, rfl⟩) fun obj s₁ hh => ?_
      obtain ⟨rfl, rfl⟩ := hh
      have hS0 : (h'.push { cls := .type "list", data := .seq #[] }).get? h'.objs.size = some { cls := .type "list", data := .seq #[] } := Heap.get?_push_size _ rfl
      refine ⟨⟨_, hS0, rfl⟩, F.args_list_init_2 _ _, ?_⟩
      show wpAny _ X.A.in1.in1 (do let old ← Builtin.List.listItems (.ref h'.objs.size); Builtin.List.listUpdate (.ref h'.objs.size) (fun _ => #[]); letGo old.toList.reverse; Builtin.List.listExtendWith (.ref h'.objs.size) (.ref (s1.heap.objs.size + 4)) .none) _ _ _
      refine wpAny_bind ?_
      unfold Builtin.List.listItems
      refine wpAny_bind (wpAny_seqItems hS0 rfl (wpAny_pure ?_))
      show wpAny _ X.A.in1.in1 (updateSeq h'.objs.size (fun _ => #[]) >>= fun _ => letGo (#[] : Array Value).toList.reverse >>= fun _ => Builtin.List.listExtendWith (.ref h'.objs.size) (.ref (s1.heap.objs.size + 4)) .none) _ _ _
      refine wpAny_bind (wpAny_updateSeq hS0 rfl ?_)
      have hS1 := Heap.get?_update_self (Obj.mapSeq (fun _ => (#[] : Array Value))) hS0 rfl
      refine wpAny_bind (wpAny_letGo ?_)
      have old : ∀ (g : Heap) (f : Obj → Obj), (∀ c o, h'.get? c = some o → g.get? c = some o) → ∀ c o, h'.get? c = some o → (g.update h'.objs.size f).get? c = some o := fun g f y c o ec =>
        (Heap.get?_update_other _ _ (Nat.ne_of_gt (Heap.lt_size ec))).trans (y c o ec)
      have y0 : ∀ c o, h'.get? c = some o → (h'.push { cls := .type "list", data := .seq #[] }).get? c = some o := fun c o ec => Heap.get?_push_of_some _ ec
      have y1 := old _ (Obj.mapSeq (fun _ => (#[] : Array Value))) y0
      unfold Builtin.List.listExtendWith
      refine wpAny_bind (wpAny_typeOf (T := "zip") ⟨_, y1 _ _ hz, rfl⟩ ?_)
      have n1 : Builtin.List.listSameRef (.ref h'.objs.size) (.ref (s1.heap.objs.size + 4)) = false := by simp [Builtin.List.listSameRef, zS]
      have n2 : (Value.type "zip" == Value.type "list") = false := by decide
      have n3 : (Value.type "zip" == Value.type "tuple") = false := by decide
      simp only [n1, n2, n3, Bool.or_false, Bool.false_eq_true, if_false]
      refine wpAny_bind (wpAny_pyIter_zip (y1 _ _ hz) ?_)
      refine wpAny_bind (wpAny_holding ?_)
      unfold Builtin.List.listLengthHint
      refine wpAny_bind (wpAny_specialOf (T := "zip") ⟨_, y1 _ _ hz, rfl⟩ zip_len0 ?_)
      show wpAny _ X.A.in1.in1 (specialOf (Value.ref (s1.heap.objs.size + 4)) (Str.ofString "__length_hint__") >>= _) _ _ _
      refine wpAny_bind (wpAny_specialOf (T := "zip") ⟨_, y1 _ _ hz, rfl⟩ zip_hint0 ?_)
      refine wpAny_pure ?_
      show wpAny _ X.A.in1.in1 (rule "list.extend.makes-room" >>= fun _ => Builtin.List.listTouch (.ref h'.objs.size) >>= fun _ => again (.builtin "list.extend.loop" ⟨[.ref h'.objs.size, .ref (s1.heap.objs.size + 4), .none], []⟩)) _ _ _
      refine wpAny_bind (wpAny_rule ?_)
      refine wpAny_bind ?_
      show wpAny _ X.A.in1.in1 (updateSeq h'.objs.size (·.push .none) >>= fun _ => updateSeq h'.objs.size (·.pop)) _ _ _
      refine wpAny_bind (wpAny_updateSeq hS1 rfl ?_)
      have hS2 := Heap.get?_update_self (Obj.mapSeq (·.push Value.none)) hS1 rfl
      refine wpAny_updateSeq (hz := by seq_fits) hS2 rfl ?_
      have hS3 := Heap.get?_update_self (Obj.mapSeq (·.pop)) hS2 rfl
      have y3 := old _ (Obj.mapSeq (·.pop)) (old _ (Obj.mapSeq (·.push Value.none)) y1)
      have new0 : H1 h'.objs.size = none := I2.hok.fresh (Nat.le_refl _)
      have aS : a ≠ h'.objs.size := Nat.ne_of_lt (by rw [size]; exact Nat.lt_add_right 5 la)
      have bS : b ≠ h'.objs.size := Nat.ne_of_lt (by rw [size]; exact Nat.lt_add_right 5 lb)
      refine wpAny_pure ⟨plainId_quiet F.plain_extend_loop _, ?_⟩
      refine zip_loop (X := X) (A := X.A.in1) (pins := pins) (σ := σ) (H1 := H1) (z := s1.heap.objs.size + 4) (TI := s1.heap.objs.size + 2) (TO := s1.heap.objs.size + 3) (i1 := s1.heap.objs.size) (i2 := s1.heap.objs.size + 1) (a := a) (b := b) (S := h'.objs.size) (xs := xs) (ys := ys)
        (PySem.W.ktu_apart s1.heap.objs.size a b la lb) (I1.ok.hd calm) len zx .none aS bS new0 (fun s' H' ts J same hS tl pr nt ns => ?_)
        xs.length 0 _ (upd H1 h'.objs.size (.lst [])) [] (Nat.sub_zero _) rfl (Nat.zero_le _) (I2.laid (t' := s1.toks) y3 (Nat.le_refl _) ⟨Nat.zero_le _, [], _, .nil, hS3⟩) (fun c mc => ?_) ⟨fun c mc => ?_, y3 _ _ hTI, j1.at fun o ec => y3 _ _ ec, j2.at fun o ec => y3 _ _ ec, .inl ⟨y3 _ _ hz, _, _, y3 _ _ hTO⟩⟩
        upd_same (by rw [upd_ne aS]; exact hqa) (by rw [upd_ne bS]; exact hqb) (same_new new0) (fun j t ej => by simp at ej) (fun t mt => absurd mt List.not_mem_nil) List.not_mem_nil
      · exact ⟨rfl, ⟨.ref h'.objs.size, H', J, rfl, k H' _ ts same new0 hS tl pr nt ns⟩⟩
      · have : s1.heap.objs.size ≤ c ∧ c ≠ h'.objs.size := by
          simp only [List.mem_cons, List.not_mem_nil, or_false] at mc
          rw [size]
          rcases mc with rfl | rfl | rfl | rfl | rfl
          · exact ⟨Nat.le_add_right _ _, Nat.ne_of_lt (Nat.add_lt_add_left (by decide) _)⟩
          · exact ⟨Nat.le_add_right _ _, Nat.ne_of_lt (Nat.add_lt_add_left (by decide) _)⟩
          · exact ⟨Nat.le_add_right _ _, Nat.ne_of_lt (Nat.add_lt_add_left (by decide) _)⟩
          · exact ⟨Nat.le_refl _, Nat.ne_of_lt (Nat.lt_add_of_pos_right (by decide))⟩
          · exact ⟨Nat.le_add_right _ _, Nat.ne_of_lt (Nat.add_lt_add_left (by decide) _)⟩
        exact I1.fpOk this.1 (by rw [upd_ne this.2]; exact I1.hok.fresh this.1)
      · show c < (((((h'.push _).update _ _).update _ _).update _ _)).objs.size
        rw [Heap.size_update, Heap.size_update, Heap.size_update, Heap.size_push]
        have tot : c < s1.heap.objs.size + 5 := by
          simp only [List.mem_cons, List.not_mem_nil, or_false] at mc
          rcases mc with rfl | rfl | rfl | rfl | rfl
          · exact Nat.add_lt_add_left (by decide) _
          · exact Nat.add_lt_add_left (by decide) _
          · exact Nat.add_lt_add_left (by decide) _
          · exact Nat.lt_add_of_pos_right (by decide)
          · exact Nat.add_lt_add_left (by decide) _
        rw [← size] at tot
        exact Nat.lt_succ_of_lt tot
end

/-! ### both speeds at each moment -/
structure Blt6 (mg : Str → Option Value) : Prop where
  zip : mg "zip" = none
def spWeeks (C : Addr) : Sp := fun vs H Q _ => ∃ (a b l d l' d' : Addr) (ps qs : List Int) (ms ns : List (Int × Int)), vs = [.ref a, .ref b] ∧ CalAt C H a l d ps ms ∧ CalAt C H b l' d' qs ns ∧ ps.length = qs.length ∧ Q .non H
/-- (moment, both speeds) at the addresses cs -/
def ChAt (H : Hp) (ps qs : List Int) (ms ns : List (Int × Int)) (ks : List Int) (cs : List Addr) : Prop := ∀ (j : Nat) (c : Addr), cs[j]? = some c → ∃ (k : Int) (u : Addr), ks[j]? = some k ∧ H c = some (.tup [.int k, .ref u]) ∧ H u = some (.tup [.int (speedAt ps ms k), .int (speedAt qs ns k)])
theorem ChAt.same {H H' : Hp} {ps qs : List Int} {ms ns : List (Int × Int)} {ks : List Int} {cs : List Addr} (p : ChAt H ps qs ms ns ks cs) (f : Same H H') : ChAt H' ps qs ms ns ks cs := fun j c e => by
  obtain ⟨k, u, e1, e2, e3⟩ := p j c e
  exact ⟨k, u, e1, f _ _ e2, f _ _ e3⟩
theorem PairsAt.same {H H' : Hp} {xs ys : List V} {ts : List Addr} (p : PairsAt H xs ys ts) (f : Same H H') : PairsAt H' xs ys ts := fun j t e => by
  obtain ⟨x, y, e1, e2, e3⟩ := p j t e
  exact ⟨x, y, e1, e2, f _ _ e3⟩
def spPairs (C : Addr) : Sp := fun vs H Q _ => ∃ (a b l d l' d' : Addr) (ps qs : List Int) (ms ns : List (Int × Int)), vs = [.ref a, .ref b] ∧ CalAt C H a l d ps ms ∧ CalAt C H b l' d' qs ns ∧ ps.length = qs.length ∧ 0 < ps.length ∧ ms.length + ns.length ≤ 60 ∧
  ∀ (H' : Hp) (r W L : Addr) (ws cs : List Addr) (ks : List Int), Same H H' → H' r = some (.tup [.ref W, .ref L]) → H' W = some (.lst (ws.map V.ref)) → ws.length = ps.length → PairsAt H' (ps.map V.int) (qs.map V.int) ws →
    H' L = some (.lst (cs.map V.ref)) → cs.length = ks.length → ChAt H' ps qs ms ns ks cs → ks.Pairwise (· < ·) → (∀ k, k ∈ ks ↔ k ∈ (ms ++ ns).map (·.1)) → ks.length ≤ ms.length + ns.length → Q (.ref r) H'
section
variable {P : Program} {w : World} {K : PySem.W.Frag} {mg : Str → Option Value} {base : Heap}
theorem scWeeks : FnScope ["one", "other"] ["one", "other"] (defScope sWeeks) := ⟨rfl, rfl, rfl, by decide +kernel, rfl, by decide +kernel, by decide +kernel⟩
theorem ok_weeks {f C p1 g1 : Addr} {fd d1 : FuncData} (F : Fun K "check_weeks" "check_weeks" sWeeks f fd) (Z : Cal K mg C) (W1 : Pp P w K mg base C "week" (spWeek C) p1 g1 d1) : FnOk P w K mg base CX0 3 f fd ["one", "other"] (spWeeks C) := by
  refine F.ok scWeeks (fun vs H Q E h => ?_) (fun cdv A outer s H vs Q E hr h => ?_)
  · obtain ⟨a, b, l, d, l', d', ps, qs, ms, ns, rfl, _⟩ := h
    rfl
  · obtain ⟨a, b, l, d, l', d', ps, qs, ms, ns, rfl, c1, c2, len, k⟩ := h
    refine ⟨_, pss_one (ps_if (pt_cmpR op_ne (pe_prop (pv 0) Z.cl W1.of W1.ok hr W1.bi .nil pass0 rfl) (pe_prop (pv 1) Z.cl W1.of W1.ok hr W1.bi .nil pass0 rfl) (nomark _)) (pss_one ps_never) pss_nil), ?_⟩
    obtain ⟨dx, hx⟩ := c1.ob
    obtain ⟨dy, hy⟩ := c2.ob
    refine ⟨_, rfl, a, dx, _, rfl, hx, ⟨a, l, d, ps, ms, rfl, c1, ⟨_, rfl, b, dy, _, rfl, hy, ⟨b, l', d', qs, ns, rfl, c2, ⟨rfl, _, rfl, ?_⟩⟩⟩⟩⟩
    rw [len, decide_eq_true rfl]
    exact ite2 (fun g => absurd g (by decide)) (fun _ => k)
theorem scPairs : FnScope ["one", "other", "weekly", "at"] ["one", "other"] (defScope sPairs) := ⟨rfl, rfl, rfl, by decide +kernel, rfl, by decide +kernel, by decide +kernel⟩
theorem ok_pairs {f fW fC fG C p2 g2 : Addr} {fd dW dG d2 : FuncData} (F : Fun K "speed_pairs" "speed_pairs" sPairs f fd) (T : Blt mg) (T6 : Blt6 mg) (Z : Cal K mg C) (Cw : At P w K mg base 3 "check_weeks" ["one", "other"] (spWeeks C) fW dW) (Ch : AtR P w K mg base 3 "changed_moments" (spChanged C) fC)
    (oG : Own K C "__getitem__" fG) (Gg : FnOk P w K mg base CX0 1 fG dG ["self", "at"] (spGet C)) (bG : Binds K dG ["self", "at"] []) (W2 : Pp P w K mg base C "speeds" (spSpeeds C) p2 g2 d2) : FnOk P w K mg base CX0 4 f fd ["one", "other"] (spPairs C) := by
  refine F.ok scPairs (fun vs H Q E h => ?_) (fun cdv A outer s H vs Q E hr h => ?_)
  · obtain ⟨a, b, l, d, l', d', ps, qs, ms, ns, rfl, _⟩ := h
    rfl
  · obtain ⟨a, b, l, d, l', d', ps, qs, ms, ns, rfl, c1, c2, len, l0, le, k⟩ := h
    have hr2 : Room 2 _ := hr.mono (by decide)
    refine ⟨_, pss_cons (ps_expr (pe_call Cw.ok hr (by rfl) Cw.at_ Cw.kp Cw.bi .nil pass0 (pa_cons (pv 0) (pa_cons (pv 1) pa_nil))))
      (pss_cons (ps_set (i := 2) scPairs.nd rfl (.inl rfl) (pe_listZip rfl (by rfl) T.list (by decide +kernel) (by rfl) T6.zip (pa_cons (pe_prop (pv 0) Z.cl W2.of W2.ok hr2 W2.bi .nil pass0 rfl) (pa_cons (pe_prop (pv 1) Z.cl W2.of W2.ok hr2 W2.bi .nil pass0 rfl) pa_nil))))
      (pss_one (ps_ret (pe_tup (pa_cons (pv 2) (pa_cons (pe_lc (own := [("at", 3)]) (g := gName 3) (tt := tYes) rfl scPairs.nd (pi_list (pe_callR Ch.ok hr (by rfl) Ch.at_ Ch.kp pass0 (pa_cons (pv 0) (pa_cons (pv 1) pa_nil))))
          (blkOk_by (N := ["one", "other", "weekly", "at"]) (sc := defScope sPairs) (by decide +kernel)) (fun _ _ _ _ _ => pg_name (i := 3) scPairs.nd rfl (.inl rfl)) (fun _ _ _ _ _ => pts_nil)
          (fun _ _ _ _ _ => pe_tup (pa_cons (pv 3) (pa_cons (pe_tup (pa_cons (ix_own oG Gg hr2 bG (pv 0) (pv 3)) (pa_cons (ix_own oG Gg hr2 bG (pv 1) (pv 3)) pa_nil))) pa_nil)))) pa_nil)))))), ?_⟩
    obtain ⟨dx, hx⟩ := c1.ob
    obtain ⟨dy, hy⟩ := c2.ob
    refine ⟨_, rfl, _, rfl, ⟨a, b, l, d, l', d', ps, qs, ms, ns, rfl, c1, c2, len, ?_⟩⟩
    refine ⟨_, rfl, a, dx, _, rfl, hx, ⟨a, l, d, ps, ms, rfl, c1, fun q1 n1 => ?_⟩⟩
    have s1 := same_new (o := .lst (ps.map V.int)) n1
    refine ⟨_, rfl, b, dy, _, rfl, s1 _ _ hy, ⟨b, l', d', qs, ns, rfl, c2.same s1, fun q2 n2 => ?_⟩⟩
    have s2 := same_new (o := .lst (qs.map V.int)) n2
    refine ⟨q1, q2, _, _, rfl, s2 _ _ upd_same, upd_same, by rw [List.length_map, List.length_map]; exact len, fun H1 S ws s3 nS hS wl pr _ _ => ?_⟩
    rw [List.length_map] at wl
    have s03 := (s1.trans s2).trans s3
    refine ⟨_, rfl, _, rfl, _, rfl, ⟨a, b, l, d, l', d', ps, qs, ms, ns, rfl, c1.same s03, c2.same s03, le, fun H2 q ks s4 nq asc mem kl hq => ?_⟩⟩
    have s04 := s03.trans s4
    have cA := c1.same s04
    have cB := c2.same s04
    refine ⟨q, rfl, ⟨_, SqL.of hq⟩, fun L nL => lc_list (K := K) (a := q) (xs := ks.map V.int) (fun i J => ∃ cs : List Addr, J L = some (.lst (cs.map V.ref)) ∧ cs.length = i ∧ ChAt J ps qs ms ns ks cs ∧ Same H2 J) ⟨[], upd_same, rfl, fun j c e => by simp at e, same_new nL⟩ (fun i J _ ⟨_, _, _, _, h⟩ => SqL.of (h _ _ hq)) ?_ ?_⟩
    · rintro i y J hi' ⟨cs, hJ, cl, ch, sJ⟩
      have hi2 : i < ks.length := by
        have := (List.getElem?_eq_some_iff.mp hi').1
        simpa using this
      rw [List.getElem?_map, List.getElem?_eq_getElem hi2] at hi'
      obtain rfl := Option.some.inj hi'
      have cA2 := cA.same sJ
      have cB2 := cB.same sJ
      obtain ⟨dx2, hx2⟩ := cA2.ob
      obtain ⟨dy2, hy2⟩ := cB2.ob
      refine ⟨rfl, _, rfl, _, rfl, _, rfl, a, dx2, _, rfl, hx2, ⟨a, l, d, ps, ms, ks[i], rfl, cA2, l0, ?_⟩⟩
      refine ⟨_, rfl, _, rfl, b, dy2, _, rfl, hy2, ⟨b, l', d', qs, ns, ks[i], rfl, cB2, by omega, ?_⟩⟩
      refine ⟨(by show 2 ≤ sizeLine; decide), fun u nu => ⟨(by show 2 ≤ sizeLine; decide), fun c nc => ?_⟩⟩
      have e1 := same_new (o := .tup [.int (speedAt ps ms ks[i]), .int (speedAt qs ns ks[i])]) nu
      have e2 := same_new (o := .tup [.int ks[i], .ref u]) nc
      have e12 := e1.trans e2
      have put : ∀ {D : Addr} {o : HO} {xs : List V} {Y : Hp}, Y L = some (.lst xs) → Y D = some o → (∀ z, o ≠ .lst z) → (upd Y L (.lst ((cs ++ [c]).map V.ref))) D = some o := fun {D o xs Y} g e z => by
        rw [upd_ne fun q => by rw [q, g] at e; exact z _ (Option.some.inj e).symm]
        exact e
      refine ⟨_, e12 _ _ hJ, by rw [List.length_map]; exact small1000 (by omega), cs ++ [c], ?_, by rw [List.length_append, cl]; rfl, fun j t e => ?_, fun t o e => ?_⟩
      · rw [upd_same, List.map_append]
        rfl
      · rw [show cs.map V.ref ++ [V.ref c] = (cs ++ [c]).map V.ref by rw [List.map_append]; rfl]
        rcases Nat.lt_trichotomy j cs.length with g | g | g
        · rw [List.getElem?_append_left g] at e
          obtain ⟨kk, uu, k1, k2, k3⟩ := (ch.same e12) j t e
          exact ⟨kk, uu, k1, put (e12 _ _ hJ) k2 (fun z q => nomatch q), put (e12 _ _ hJ) k3 (fun z q => nomatch q)⟩
        · subst g
          have : c = t := by simpa using e
          subst this
          exact ⟨ks[i], u, by rw [cl]; exact List.getElem?_eq_getElem hi2, put (e12 _ _ hJ) upd_same (fun z q => nomatch q), put (e12 _ _ hJ) (e2 _ _ upd_same) (fun z q => nomatch q)⟩
        · rw [List.getElem?_eq_none (by rw [List.length_append, List.length_singleton]; omega)] at e
          cases e
      · rw [upd_ne (ne_of_none e nL)]
        exact e12 _ _ (sJ t o e)
    · rintro J ⟨cs, hJ, cl, ch, sJ⟩
      rw [List.length_map] at cl
      refine ⟨(by show 2 ≤ sizeLine; decide), fun r nr => ?_⟩
      have s5 := same_new (o := .tup [.ref S, .ref L]) nr
      have sA := (s4.trans sJ).trans s5
      exact k _ r S L ws cs ks (s03.trans sA) upd_same (sA _ _ hS) wl (pr.same sA) (s5 _ _ hJ) cl (ch.same s5) asc mem kl
end

/-! ### a | b and a & b of own classes -/
section
variable {X : Cx} {k : Nat} {f C : Addr} {fd : FuncData} {ps : List Str} {sp : Sp}
def rBin (C : Addr) (sp : Sp) : R2 := fun x y H Q => ∃ a b dx dy fs gs, x = .ref a ∧ y = .ref b ∧ H a = some (.ins C dx fs) ∧ H b = some (.ins C dy gs) ∧ sp [.ref a, .ref b] H (fun r H' => (∃ c, r = .ref c) ∧ Q r H') E0
theorem op_binOwn {op : Operator} (o : Own X.K C (PySem.dunder op.info.2) f) (first : PySem.W.selfFirst X.K C = true) (F : FnOk X.prog X.w X.K X.mg X.base CX0 k f fd ps sp) (hr : Room k X.A) (hb : Binds X.K fd ps []) : OpR X (binaryOp op) (rBin C sp) := by
  intro pins s σ H x y v u Q I rx ry h
  obtain ⟨a, b, dx, dy, fs, gs, rfl, rfl, ea, eb, hq⟩ := h
  obtain rfl : v = Value.ref a := rx
  obtain rfl : u = Value.ref b := ry
  obtain ⟨m, fr⟩ := I.fr
  obtain ⟨mA, O, _⟩ := ins_get I.hok ea
  obtain ⟨od, J, _⟩ := O.look
  obtain ⟨mB, O2, _⟩ := ins_get I.hok eb
  obtain ⟨od2, J2, _⟩ := O2.look
  refine PySem.W.binop_K fr I.ok.mod.kin J J2.type first o.at_ o.fn (thn (run_here F hr hb I (.cons (show L2.RelV (V.ref a) (Value.ref a) from rfl) (.cons (show L2.RelV (V.ref b) (Value.ref b) from rfl) .nil)) hq) fun r s2 hh => ?_)
  obtain ⟨z, H2, I2, rz, ⟨c, ec⟩, q2⟩ := hh
  subst ec
  obtain rfl : r = Value.ref c := rz
  exact ⟨.ref c, H2, I2, rfl, q2⟩
end
def mxI (i j : Int) : Int := if i < j then j else i
def mnI (i j : Int) : Int := if j < i then j else i
def joinP (f : Int → Int → Int) (ps qs : List Int) : List Int := List.zipWith f ps qs
def joinM (f : Int → Int → Int) (ps qs : List Int) (ms ns : List (Int × Int)) (ks : List Int) : List (Int × Int) := ks.map fun k => (k, f (speedAt ps ms k) (speedAt qs ns k))
def spJoin (f : Int → Int → Int) (C : Addr) : Sp := fun vs H Q _ => ∃ (a b l d l' d' : Addr) (ps qs : List Int) (ms ns : List (Int × Int)), vs = [.ref a, .ref b] ∧ CalAt C H a l d ps ms ∧ CalAt C H b l' d' qs ns ∧ ps.length = qs.length ∧ Paces ps ∧ Paces qs ∧ Fit ms ∧ Fit ns ∧ ms.length + ns.length ≤ 60 ∧ Paces (joinP f ps qs) ∧
  ∀ (H' : Hp) (y l2 d2 : Addr) (ks : List Int), ks.Pairwise (· < ·) → (∀ k, k ∈ ks ↔ k ∈ (ms ++ ns).map (·.1)) → ks.length ≤ ms.length + ns.length → Same H H' → CalAt C H' y l2 d2 (joinP f ps qs) (realOf (joinP f ps qs) (joinM f ps qs ms ns ks)) → H y = none → H l2 = none → H d2 = none → Q (.ref y) H'
section
variable {P : Program} {w : World} {K : PySem.W.Frag} {mg : Str → Option Value} {base : Heap}
theorem scOr : FnScope ["self", "other", "weekly", "changed", "pair", "at"] ["self", "other"] (defScope sOr) := ⟨rfl, rfl, rfl, by decide +kernel, rfl, by decide +kernel, by decide +kernel⟩
theorem ok_or {f fS fI C : Addr} {fd dS dI : FuncData} (F : Fun K "__or__" "Calendar.__or__" sOr f fd) (T : Blt mg) (Z : Cal K mg C) (MK : Mk K C fI) (GI : FnOk P w K mg base CX0 3 fI dI ["self", "speeds", "changes"] (spInit C K)) (bI : Binds K dI ["self", "speeds", "changes"] [])
    (Pr : At P w K mg base 4 "speed_pairs" ["one", "other"] (spPairs C) fS dS) : FnOk P w K mg base CX0 5 f fd ["self", "other"] (spJoin mxI C) := by
  refine F.ok scOr (fun vs H Q E h => ?_) (fun cdv A outer s H vs Q E hr h => ?_)
  · obtain ⟨a, b, l, d, l', d', ps, qs, ms, ns, rfl, _⟩ := h
    rfl
  · obtain ⟨a, b, l, d, l', d', ps, qs, ms, ns, rfl, c1, c2, len, hp, hq, fm, fn, le, pj, k⟩ := h
    have hu := hr.units
    refine ⟨_, pss_cons (ps_asg (pe_call Pr.ok hr (by rfl) Pr.at_ Pr.kp Pr.bi .nil pass0 (pa_cons (pv 0) (pa_cons (pv 1) pa_nil))) (pg_tup rfl (pgs_cons (pg_name (i := 2) scOr.nd rfl (.inl rfl)) (pgs_cons (pg_name (i := 3) scOr.nd rfl (.inl rfl)) pgs_nil))))
      (pss_one (ps_ret (pe_make MK GI hr (by rfl) Z.at_ bI .nil pass0 (pa_cons (pe_lc (own := [("pair", 4)]) (g := gName 4) (tt := tYes) rfl scOr.nd (pi_list (pv 2))
          (blkOk_by (N := ["self", "other", "weekly", "changed", "pair", "at"]) (sc := defScope sOr) (by decide +kernel)) (fun _ _ _ _ _ => pg_name (i := 4) scOr.nd rfl (.inl rfl)) (fun _ _ _ _ _ => pts_nil)
          (fun _ _ _ _ _ => pe_callB (r := rMaxT K) (cr_maxT rfl hu) (by rfl) T.max (by decide +kernel) (pa_cons (pv 4) pa_nil)))
        (pa_cons (pe_lc (own := [("at", 5), ("pair", 4)]) (g := gTup K 2 (gCons (gName 5) (gCons (gName 4) gNil))) (tt := tYes) rfl scOr.nd (pi_list (pv 3))
          (blkOk_by (N := ["self", "other", "weekly", "changed", "pair", "at"]) (sc := defScope sOr) (by decide +kernel))
          (fun _ _ _ _ _ => pg_tup rfl (pgs_cons (pg_name (i := 5) scOr.nd rfl (.inl rfl)) (pgs_cons (pg_name (i := 4) scOr.nd rfl (.inl rfl)) pgs_nil))) (fun _ _ _ _ _ => pts_nil)
          (fun _ _ _ _ _ => pe_tup (pa_cons (pv 5) (pa_cons (pe_callB (r := rMaxT K) (cr_maxT rfl hu) (by rfl) T.max (by decide +kernel) (pa_cons (pv 4) pa_nil)) pa_nil)))) pa_nil))))), ?_⟩
    have l1 := hp.len1
    refine ⟨_, rfl, _, rfl, ⟨a, b, l, d, l', d', ps, qs, ms, ns, rfl, c1, c2, len, hp.len0, le, fun H1 r W L ws cs ks s1 hr1 hW wl pw hL cl ch asc mem kl => ?_⟩⟩
    refine ⟨r, _, rfl, .inl (.inl hr1), rfl, _, _, rfl, _, [], rfl, rfl, ?_⟩
    refine ⟨_, rfl, W, rfl, ⟨_, SqL.of hW⟩, fun D nD => lc_list (K := K) (a := W) (xs := ws.map V.ref) (fun i J => J D = some (.lst ((List.zipWith mxI (ps.take i) (qs.take i)).map V.int)) ∧ Same H1 J) ⟨upd_same, same_new nD⟩ (fun i J _ ⟨_, h⟩ => SqL.of (h _ _ hW)) ?_ ?_⟩
    · rintro i y J hi' ⟨hJ, sJ⟩
      have hi2 : i < ws.length := by
        have := (List.getElem?_eq_some_iff.mp hi').1
        simpa using this
      rw [List.getElem?_map, List.getElem?_eq_getElem hi2] at hi'
      obtain rfl := Option.some.inj hi'
      obtain ⟨x, y, ex, ey, ht⟩ := pw i _ (List.getElem?_eq_getElem hi2)
      have ip : i < ps.length := by omega
      have iq : i < qs.length := by omega
      rw [List.getElem?_map, List.getElem?_eq_getElem ip] at ex
      rw [List.getElem?_map, List.getElem?_eq_getElem iq] at ey
      obtain rfl := Option.some.inj ex
      obtain rfl := Option.some.inj ey
      have ez : List.zipWith mxI (ps.take (i + 1)) (qs.take (i + 1)) = List.zipWith mxI (ps.take i) (qs.take i) ++ [mxI ps[i] qs[i]] := by
        rw [List.take_add_one, List.take_add_one, List.getElem?_eq_getElem ip, List.getElem?_eq_getElem iq, List.zipWith_append (by rw [List.length_take, List.length_take, len])]
        rfl
      refine ⟨rfl, _, rfl, ws[i], ps[i], qs[i], rfl, SqT.of (sJ _ _ ht), ?_⟩
      refine ⟨_, hJ, ?_, ?_, fun c o e => ?_⟩
      · rw [List.length_map, List.length_zipWith, List.length_take, List.length_take]
        exact small1000 (by omega)
      · rw [upd_same, ez, List.map_append]
        rfl
      · rw [upd_ne (ne_of_none e nD)]
        exact sJ c o e
    rintro J ⟨hJ, sJ⟩
    rw [List.length_map, wl, List.take_length, len, List.take_length] at hJ
    have hL2 := sJ _ _ hL
    have ch2 := ch.same sJ
    refine ⟨_, rfl, L, rfl, ⟨_, SqL.of hL2⟩, fun E nE => lc_list (K := K) (a := L) (xs := cs.map V.ref) (fun i J2 => ∃ us : List Addr, J2 E = some (.lst (us.map V.ref)) ∧ Tups J2 us (joinM mxI ps qs ms ns (ks.take i)) ∧ Same J J2)
      ⟨[], upd_same, trivial, same_new nE⟩ (fun i J2 _ ⟨_, _, _, h⟩ => SqL.of (h _ _ hL2)) ?_ ?_⟩
    · rintro i y J2 hi' ⟨us, hU, hus, sU⟩
      have hi2 : i < cs.length := by
        have := (List.getElem?_eq_some_iff.mp hi').1
        simpa using this
      rw [List.getElem?_map, List.getElem?_eq_getElem hi2] at hi'
      obtain rfl := Option.some.inj hi'
      obtain ⟨k', u', ek, hc, hu'⟩ := (ch2.same sU) i _ (List.getElem?_eq_getElem hi2)
      have et : ks.take (i + 1) = ks.take i ++ [k'] := by rw [List.take_add_one, ek]; rfl
      refine ⟨_, _, rfl, .inl (.inl hc), rfl, _, _, rfl, _, [], rfl, rfl, rfl, ?_⟩
      refine ⟨_, rfl, _, rfl, u', speedAt ps ms k', speedAt qs ns k', rfl, SqT.of hu', (by show 2 ≤ sizeLine; decide), fun t nt => ?_⟩
      have gt := same_new (o := .tup [.int k', .int (mxI (speedAt ps ms k') (speedAt qs ns k'))]) nt
      have ul := hus.len
      unfold joinM at ul
      rw [List.length_map, List.length_take] at ul
      refine ⟨_, gt _ _ hU, by rw [List.length_map]; exact small1000 (by omega), us ++ [t], ?_, ?_, fun c o e => ?_⟩
      · rw [upd_same, List.map_append]
        rfl
      · rw [et]
        unfold joinM at hus ⊢
        rw [List.map_append]
        exact ((hus.same gt).snoc (m := (k', mxI (speedAt ps ms k') (speedAt qs ns k'))) upd_same).put (gt _ _ hU)
      · rw [upd_ne (ne_of_none e nE)]
        exact gt _ _ (sU c o e)
    · rintro J2 ⟨us, hU, hus, sU⟩
      rw [List.length_map, cl, List.take_length] at hus
      have fj : Fit (joinM mxI ps qs ms ns ks) := by
        refine ⟨?_, fun m hm => ?_, by unfold joinM; rw [List.length_map]; omega⟩
        · unfold joinM
          rw [List.pairwise_map]
          exact asc
        · obtain ⟨k', _, rfl⟩ := List.mem_map.mp hm
          have g1 := speed_lo hp fm k'
          have g2 := speed_lo hq fn k'
          show 0 ≤ mxI _ _ ∧ mxI _ _ ≤ 3
          unfold mxI
          split <;> omega
      refine fun y dy ny ndy _ => made_ok rfl ny ndy (sU _ _ hJ) hU hus pj fj fun H' l2 d2 cal nl nd s5 => ⟨rfl, ?_⟩
      have sAll := (s1.trans sJ).trans sU
      exact k H' y l2 d2 ks asc mem kl (sAll.trans s5) cal (sAll.free ny) (sAll.free nl) (sAll.free nd)
end

section
variable {P : Program} {w : World} {K : PySem.W.Frag} {mg : Str → Option Value} {base : Heap}
theorem scAnd : FnScope ["self", "other", "weekly", "changed", "pair", "at"] ["self", "other"] (defScope sAnd) := ⟨rfl, rfl, rfl, by decide +kernel, rfl, by decide +kernel, by decide +kernel⟩
theorem ok_and {f fS fI C : Addr} {fd dS dI : FuncData} (F : Fun K "__and__" "Calendar.__and__" sAnd f fd) (T : Blt mg) (Z : Cal K mg C) (MK : Mk K C fI) (GI : FnOk P w K mg base CX0 3 fI dI ["self", "speeds", "changes"] (spInit C K)) (bI : Binds K dI ["self", "speeds", "changes"] [])
    (Pr : At P w K mg base 4 "speed_pairs" ["one", "other"] (spPairs C) fS dS) : FnOk P w K mg base CX0 5 f fd ["self", "other"] (spJoin mnI C) := by
  refine F.ok scAnd (fun vs H Q E h => ?_) (fun cdv A outer s H vs Q E hr h => ?_)
  · obtain ⟨a, b, l, d, l', d', ps, qs, ms, ns, rfl, _⟩ := h
    rfl
  · obtain ⟨a, b, l, d, l', d', ps, qs, ms, ns, rfl, c1, c2, len, hp, hq, fm, fn, le, pj, k⟩ := h
    have hu := hr.units
    refine ⟨_, pss_cons (ps_asg (pe_call Pr.ok hr (by rfl) Pr.at_ Pr.kp Pr.bi .nil pass0 (pa_cons (pv 0) (pa_cons (pv 1) pa_nil))) (pg_tup rfl (pgs_cons (pg_name (i := 2) scAnd.nd rfl (.inl rfl)) (pgs_cons (pg_name (i := 3) scAnd.nd rfl (.inl rfl)) pgs_nil))))
      (pss_one (ps_ret (pe_make MK GI hr (by rfl) Z.at_ bI .nil pass0 (pa_cons (pe_lc (own := [("pair", 4)]) (g := gName 4) (tt := tYes) rfl scAnd.nd (pi_list (pv 2))
          (blkOk_by (N := ["self", "other", "weekly", "changed", "pair", "at"]) (sc := defScope sAnd) (by decide +kernel)) (fun _ _ _ _ _ => pg_name (i := 4) scAnd.nd rfl (.inl rfl)) (fun _ _ _ _ _ => pts_nil)
          (fun _ _ _ _ _ => pe_callB (r := rMinT K) (cr_minT rfl hu) (by rfl) T.min (by decide +kernel) (pa_cons (pv 4) pa_nil)))
        (pa_cons (pe_lc (own := [("at", 5), ("pair", 4)]) (g := gTup K 2 (gCons (gName 5) (gCons (gName 4) gNil))) (tt := tYes) rfl scAnd.nd (pi_list (pv 3))
          (blkOk_by (N := ["self", "other", "weekly", "changed", "pair", "at"]) (sc := defScope sAnd) (by decide +kernel))
          (fun _ _ _ _ _ => pg_tup rfl (pgs_cons (pg_name (i := 5) scAnd.nd rfl (.inl rfl)) (pgs_cons (pg_name (i := 4) scAnd.nd rfl (.inl rfl)) pgs_nil))) (fun _ _ _ _ _ => pts_nil)
          (fun _ _ _ _ _ => pe_tup (pa_cons (pv 5) (pa_cons (pe_callB (r := rMinT K) (cr_minT rfl hu) (by rfl) T.min (by decide +kernel) (pa_cons (pv 4) pa_nil)) pa_nil)))) pa_nil))))), ?_⟩
    have l1 := hp.len1
    refine ⟨_, rfl, _, rfl, ⟨a, b, l, d, l', d', ps, qs, ms, ns, rfl, c1, c2, len, hp.len0, le, fun H1 r W L ws cs ks s1 hr1 hW wl pw hL cl ch asc mem kl => ?_⟩⟩
    refine ⟨r, _, rfl, .inl (.inl hr1), rfl, _, _, rfl, _, [], rfl, rfl, ?_⟩
    refine ⟨_, rfl, W, rfl, ⟨_, SqL.of hW⟩, fun D nD => lc_list (K := K) (a := W) (xs := ws.map V.ref) (fun i J => J D = some (.lst ((List.zipWith mnI (ps.take i) (qs.take i)).map V.int)) ∧ Same H1 J) ⟨upd_same, same_new nD⟩ (fun i J _ ⟨_, h⟩ => SqL.of (h _ _ hW)) ?_ ?_⟩
    · rintro i y J hi' ⟨hJ, sJ⟩
      have hi2 : i < ws.length := by
        have := (List.getElem?_eq_some_iff.mp hi').1
        simpa using this
      rw [List.getElem?_map, List.getElem?_eq_getElem hi2] at hi'
      obtain rfl := Option.some.inj hi'
      obtain ⟨x, y, ex, ey, ht⟩ := pw i _ (List.getElem?_eq_getElem hi2)
      have ip : i < ps.length := by omega
      have iq : i < qs.length := by omega
      rw [List.getElem?_map, List.getElem?_eq_getElem ip] at ex
      rw [List.getElem?_map, List.getElem?_eq_getElem iq] at ey
      obtain rfl := Option.some.inj ex
      obtain rfl := Option.some.inj ey
      have ez : List.zipWith mnI (ps.take (i + 1)) (qs.take (i + 1)) = List.zipWith mnI (ps.take i) (qs.take i) ++ [mnI ps[i] qs[i]] := by
        rw [List.take_add_one, List.take_add_one, List.getElem?_eq_getElem ip, List.getElem?_eq_getElem iq, List.zipWith_append (by rw [List.length_take, List.length_take, len])]
        rfl
      refine ⟨rfl, _, rfl, ws[i], ps[i], qs[i], rfl, SqT.of (sJ _ _ ht), ?_⟩
      refine ⟨_, hJ, ?_, ?_, fun c o e => ?_⟩
      · rw [List.length_map, List.length_zipWith, List.length_take, List.length_take]
        exact small1000 (by omega)
      · rw [upd_same, ez, List.map_append]
        rfl
      · rw [upd_ne (ne_of_none e nD)]
        exact sJ c o e
    rintro J ⟨hJ, sJ⟩
    rw [List.length_map, wl, List.take_length, len, List.take_length] at hJ
    have hL2 := sJ _ _ hL
    have ch2 := ch.same sJ
    refine ⟨_, rfl, L, rfl, ⟨_, SqL.of hL2⟩, fun E nE => lc_list (K := K) (a := L) (xs := cs.map V.ref) (fun i J2 => ∃ us : List Addr, J2 E = some (.lst (us.map V.ref)) ∧ Tups J2 us (joinM mnI ps qs ms ns (ks.take i)) ∧ Same J J2)
      ⟨[], upd_same, trivial, same_new nE⟩ (fun i J2 _ ⟨_, _, _, h⟩ => SqL.of (h _ _ hL2)) ?_ ?_⟩
    · rintro i y J2 hi' ⟨us, hU, hus, sU⟩
      have hi2 : i < cs.length := by
        have := (List.getElem?_eq_some_iff.mp hi').1
        simpa using this
      rw [List.getElem?_map, List.getElem?_eq_getElem hi2] at hi'
      obtain rfl := Option.some.inj hi'
      obtain ⟨k', u', ek, hc, hu'⟩ := (ch2.same sU) i _ (List.getElem?_eq_getElem hi2)
      have et : ks.take (i + 1) = ks.take i ++ [k'] := by rw [List.take_add_one, ek]; rfl
      refine ⟨_, _, rfl, .inl (.inl hc), rfl, _, _, rfl, _, [], rfl, rfl, rfl, ?_⟩
      refine ⟨_, rfl, _, rfl, u', speedAt ps ms k', speedAt qs ns k', rfl, SqT.of hu', (by show 2 ≤ sizeLine; decide), fun t nt => ?_⟩
      have gt := same_new (o := .tup [.int k', .int (mnI (speedAt ps ms k') (speedAt qs ns k'))]) nt
      have ul := hus.len
      unfold joinM at ul
      rw [List.length_map, List.length_take] at ul
      refine ⟨_, gt _ _ hU, by rw [List.length_map]; exact small1000 (by omega), us ++ [t], ?_, ?_, fun c o e => ?_⟩
      · rw [upd_same, List.map_append]
        rfl
      · rw [et]
        unfold joinM at hus ⊢
        rw [List.map_append]
        exact ((hus.same gt).snoc (m := (k', mnI (speedAt ps ms k') (speedAt qs ns k'))) upd_same).put (gt _ _ hU)
      · rw [upd_ne (ne_of_none e nE)]
        exact gt _ _ (sU c o e)
    · rintro J2 ⟨us, hU, hus, sU⟩
      rw [List.length_map, cl, List.take_length] at hus
      have fj : Fit (joinM mnI ps qs ms ns ks) := by
        refine ⟨?_, fun m hm => ?_, by unfold joinM; rw [List.length_map]; omega⟩
        · unfold joinM
          rw [List.pairwise_map]
          exact asc
        · obtain ⟨k', _, rfl⟩ := List.mem_map.mp hm
          have g1 := speed_lo hp fm k'
          have g2 := speed_lo hq fn k'
          show 0 ≤ mnI _ _ ∧ mnI _ _ ≤ 3
          unfold mnI
          split <;> omega
      refine fun y dy ny ndy _ => made_ok rfl ny ndy (sU _ _ hJ) hU hus pj fj fun H' l2 d2 cal nl nd s5 => ⟨rfl, ?_⟩
      have sAll := (s1.trans sJ).trans sU
      exact k H' y l2 d2 ks asc mem kl (sAll.trans s5) cal (sAll.free ny) (sAll.free nl) (sAll.free nd)
end

/-! ### the speeds of calendars joined -/
theorem joinP_len {f : Int → Int → Int} {ps qs : List Int} (len : ps.length = qs.length) : (joinP f ps qs).length = ps.length := by
  unfold joinP
  rw [List.length_zipWith, len, Nat.min_self]
theorem joinP_pace {f : Int → Int → Int} {ps qs : List Int} (len : ps.length = qs.length) (l0 : 0 < ps.length) (t : Int) : paceOf (joinP f ps qs) t = f (paceOf ps t) (paceOf qs t) := by
  have h0 := Int.emod_nonneg t (show (ps.length : Int) ≠ 0 by omega)
  have h1 := Int.emod_lt_of_pos t (show (0 : Int) < ps.length by omega)
  have i1 : (t % (ps.length : Int)).toNat < ps.length := by omega
  have i2 : (t % (ps.length : Int)).toNat < qs.length := by omega
  unfold paceOf
  rw [joinP_len len, ← len]
  unfold joinP
  rw [List.getD_eq_getElem?_getD, List.getD_eq_getElem?_getD, List.getD_eq_getElem?_getD, List.getElem?_zipWith, List.getElem?_eq_getElem i1, List.getElem?_eq_getElem i2]
  rfl
theorem speed_off {ps : List Int} {ms : List (Int × Int)} {t : Int} (h : t ∉ ms.map (·.1)) : speedAt ps ms t = paceOf ps t := by
  have : ms.find? (fun m => decide (m.1 = t)) = none := by
    refine List.find?_eq_none.mpr fun m hm e => h (List.mem_map.mpr ⟨m, hm, ?_⟩)
    exact of_decide_eq_true e
  unfold speedAt
  rw [this]
  rfl
theorem find_key {g : Int → Int} {t : Int} : ∀ {ks : List Int}, t ∈ ks → (ks.map fun k => (k, g k)).find? (fun m => decide (m.1 = t)) = some (t, g t)
  | k :: ks, h => by
    rw [List.map_cons, List.find?_cons]
    by_cases c : k = t
    · subst c
      rw [decide_eq_true (show ((k, g k) : Int × Int).1 = k from rfl)]
    · rw [decide_eq_false (show ¬ ((k, g k) : Int × Int).1 = t from c)]
      rcases List.mem_cons.mp h with e | e
      · exact absurd e.symm c
      · exact find_key e
theorem join_speed {f : Int → Int → Int} {ps qs : List Int} {ms ns : List (Int × Int)} {ks : List Int} (len : ps.length = qs.length) (l0 : 0 < ps.length) (all : ∀ k ∈ (ms ++ ns).map (·.1), k ∈ ks) (t : Int) :
    speedAt (joinP f ps qs) (joinM f ps qs ms ns ks) t = f (speedAt ps ms t) (speedAt qs ns t) := by
  by_cases h : t ∈ ks
  · have e := find_key (g := fun k => f (speedAt ps ms k) (speedAt qs ns k)) h
    conv => lhs; unfold speedAt joinM
    rw [e]
    rfl
  · have off : t ∉ (joinM f ps qs ms ns ks).map (·.1) := fun q => by
      unfold joinM at q
      rw [List.map_map] at q
      obtain ⟨k, hk, e⟩ := List.mem_map.mp q
      have : k = t := e
      exact h (this ▸ hk)
    have o1 : t ∉ ms.map (·.1) := fun q => h (all t (by rw [List.map_append]; exact List.mem_append_left _ q))
    have o2 : t ∉ ns.map (·.1) := fun q => h (all t (by rw [List.map_append]; exact List.mem_append_right _ q))
    rw [speed_off off, speed_off o1, speed_off o2, joinP_pace len l0]
theorem mem_zip {f : Int → Int → Int} : ∀ {ps qs : List Int} {v : Int}, v ∈ List.zipWith f ps qs → ∃ a ∈ ps, ∃ b ∈ qs, v = f a b
  | a :: ps, b :: qs, v, h => by
    rw [List.zipWith_cons_cons] at h
    rcases List.mem_cons.mp h with e | e
    · exact ⟨a, List.mem_cons_self, b, List.mem_cons_self, e⟩
    · obtain ⟨a', ha, b', hb, e⟩ := mem_zip e
      exact ⟨a', List.mem_cons_of_mem _ ha, b', List.mem_cons_of_mem _ hb, e⟩
theorem joinP_ok {ps qs : List Int} (hp : Paces ps) (hq : Paces qs) (len : ps.length = qs.length) : Paces (joinP mxI ps qs) := by
  have jl := joinP_len (f := mxI) len
  refine ⟨fun v hv => ?_, ?_, by rw [jl]; exact hp.len0, by rw [jl]; exact hp.len1⟩
  · obtain ⟨a, ha, b, hb, rfl⟩ := mem_zip hv
    have := hp.lo a ha
    have := hq.lo b hb
    unfold mxI
    split <;> omega
  · obtain ⟨v, hv, v0⟩ := hp.pos
    obtain ⟨j, hj, e⟩ := List.getElem_of_mem hv
    have hj2 : j < qs.length := by omega
    refine ⟨mxI ps[j] qs[j], ?_, ?_⟩
    · refine List.mem_of_getElem? (i := j) ?_
      unfold joinP
      rw [List.getElem?_zipWith, List.getElem?_eq_getElem hj, List.getElem?_eq_getElem hj2]
    · have a := hp.lo _ (List.getElem_mem hj)
      have b := hq.lo _ (List.getElem_mem hj2)
      unfold mxI
      split <;> omega

/-! ### == of dicts of ints and of own objects, whatever it says -/
def hitAll (ns : List (Int × Int)) : List (Int × Int) → Bool
  | [] => true
  | m :: ms => match ns.find? (fun n => decide (n.1 = m.1)) with
    | none => false
    | some n => eqV (.int m.2) (.int n.2) && hitAll ns ms
theorem hits_ints {P : Program} {w : World} {A : Around} {s : Shared} {ns : List (Int × Int)} {vb : List (Key × Value)} (rb : KV (ns.map kvP) vb) : ∀ (ms : List (Int × Int)) {va : List (Key × Value)}, KV (ms.map kvP) va → PySem.W.KeqHitsP P w A s vb va (hitAll ns ms)
  | [], va, ra => by
    unfold KV at ra
    cases ra
    exact .nil
  | m :: ms, va, ra => by
    unfold KV at ra
    rw [List.map_cons] at ra
    cases ra with
    | @cons p q ps qs h t =>
      obtain ⟨h1, h2⟩ := h
      obtain ⟨key, v⟩ := q
      have h1' : (Sum.inl m.1 : Key) = key := h1
      subst h1'
      have rv := rb.val (Sum.inl m.1)
      rw [valV_kvP] at rv
      unfold hitAll
      cases f : ns.find? (fun n => decide (n.1 = m.1)) with
      | none =>
        rw [f] at rv
        exact .miss (RelO.none_of rv)
      | some n =>
        rw [f] at rv
        obtain ⟨y, hy, ry⟩ := rv.some_of
        have ry : L2.RelV (.int n.2) y := ry
        have h2 : L2.RelV (.int m.2) v := h2
        exact .hit hy (eqAt_V h2 ry rfl rfl).eqP (hits_ints rb ms t)
section
variable {X : Cx}
def rEqDI : R2 := fun x y H Q => ∃ a b ms ns, x = .ref a ∧ y = .ref b ∧ H a = some (.dK (ms.map kvP)) ∧ H b = some (.dK (ns.map kvP)) ∧ Q (.bl (ms.length == ns.length && hitAll ns ms)) H
theorem op_eqDI (hu : X.A.units < cLine) : OpR X (compareOp .Eq) rEqDI := by
  intro pins s σ H x y v u Q I rx ry h
  obtain ⟨a, b, ms, ns, rfl, rfl, ea, eb, q⟩ := h
  obtain rfl : v = Value.ref a := rx
  obtain rfl : u = Value.ref b := ry
  obtain ⟨_, ya, va, ra, da⟩ := (show ObjOk X.prog X.w H s.heap a (.dK (ms.map kvP)) from I.hok a _ ea)
  obtain ⟨_, yb, vb, rb, db⟩ := (show ObjOk X.prog X.w H s.heap b (.dK (ns.map kvP)) from I.hok b _ eb)
  have la : va.length = ms.length := by rw [← ra.length, List.length_map]
  have lb : vb.length = ns.length := by rw [← rb.length, List.length_map]
  show wpAny (model X.prog X.w) X.A (richCompare .Eq (.ref a) (.ref b)) (EP X pins σ Q) X.xe s
  refine PySem.W.rcP_dicts (knd := mixKind X.prog X.w) (r := hitAll ns ms) ya yb da db hu (fun _ => hits_ints rb ms ra) _ _ ?_
  rw [la, lb]
  exact ⟨.bl _, H, I, rfl, q⟩
end
section
variable {X : Cx} {n : Nat} {f C : Addr} {fd : FuncData} {ps : List Str} {sp : Sp}
def rCmpB (C : Addr) (sp : Sp) : R2 := fun x y H Q => ∃ a b dx dy fs gs, x = .ref a ∧ y = .ref b ∧ H a = some (.ins C dx fs) ∧ H b = some (.ins C dy gs) ∧ sp [.ref a, .ref b] H (fun r H' => (∃ c : Bool, r = .bl c) ∧ Q r H') E0
theorem op_eqOwn (F : FnOk X.prog X.w X.K X.mg X.base CX0 n f fd ps sp) (hs : PySem.W.findIn X.K (.ref C) "__eq__" = some (some (.ref f))) (hf : PySem.W.isFn X.K (.ref f) = true) (hb : Binds X.K fd ps []) (hr : Room n X.A) : OpR X (compareOp .Eq) (rCmpB C sp) := by
  intro pins s σ H x y v u Q I rx ry h
  obtain ⟨a, b, dx, dy, fs, gs, rfl, rfl, ea, eb, hq⟩ := h
  obtain rfl : v = Value.ref a := rx
  obtain rfl : u = Value.ref b := ry
  obtain ⟨m, fr⟩ := I.fr
  obtain ⟨mA, O, _⟩ := ins_get I.hok ea
  obtain ⟨od, J, _⟩ := O.look
  obtain ⟨mB, O2, _⟩ := ins_get I.hok eb
  obtain ⟨od2, J2, _⟩ := O2.look
  show wpAny (model X.prog X.w) X.A (richCompare .Eq (.ref a) (.ref b)) (EP X pins σ Q) X.xe s
  refine PySem.W.cmp_K (op := .Eq) (tb := .ref C) hr.units0 fr I.ok.mod.kin J J2.type (by simp [PySem.W.notFirst]) hs hf ?_
  refine thn (run_here F hr hb I (.cons (show L2.RelV (V.ref a) (Value.ref a) from rfl) (.cons (show L2.RelV (V.ref b) (Value.ref b) from rfl) .nil)) hq) fun r s2 hh => ?_
  obtain ⟨z, H2, I2, rz, ⟨c, ec⟩, q2⟩ := hh
  subst ec
  obtain rfl : r = Value.bool c := rz
  exact ⟨.bl c, H2, I2, rfl, q2⟩
end
theorem eqv_ints : ∀ xs ys : List Int, PyData.eqv (dInts xs) (dInts ys) = decide (xs = ys)
  | xs, ys => by
    have h : ∀ xs ys : List Int, PyData.eqvAll (xs.map PyData.int) (ys.map PyData.int) = decide (xs = ys) := by
      intro xs
      induction xs with
      | nil =>
        intro ys
        cases ys <;> rfl
      | cons x xs ih =>
        intro ys
        cases ys with
        | nil => rfl
        | cons y ys =>
          show (PyData.eqv (.int x) (.int y) && PyData.eqvAll (xs.map PyData.int) (ys.map PyData.int)) = _
          rw [ih, show PyData.eqv (.int x) (.int y) = (x == y) from rfl, Bool.eq_iff_iff]
          simp
    show PyData.eqvAll (xs.map PyData.int) (ys.map PyData.int) = _
    exact h xs ys
theorem asc_one : ∀ {ns : List (Int × Int)}, (ns.Pairwise fun a b => a.1 < b.1) → ∀ {m n : Int × Int}, n ∈ ns → m ∈ ns → n.1 = m.1 → n = m
  | [], _, _, _, h, _, _ => absurd h List.not_mem_nil
  | k :: ns, asc, m, n, hn, hm, e => by
    have h2 := List.pairwise_cons.mp asc
    rcases List.mem_cons.mp hn with g | g <;> rcases List.mem_cons.mp hm with q | q
    · rw [g, q]
    · have := h2.1 m q
      rw [g] at e
      omega
    · have := h2.1 n g
      rw [q] at e
      omega
    · exact asc_one h2.2 g q e
theorem hitAll_iff {ns : List (Int × Int)} (asc : ns.Pairwise fun a b => a.1 < b.1) : ∀ ms : List (Int × Int), hitAll ns ms = true ↔ ∀ m ∈ ms, m ∈ ns
  | [] => by
    unfold hitAll
    simp
  | m :: ms => by
    unfold hitAll
    have ih := hitAll_iff asc ms
    cases f : ns.find? (fun n => decide (n.1 = m.1)) with
    | none =>
      constructor
      · intro h
        exact absurd h Bool.false_ne_true
      · intro h
        have := List.find?_eq_none.mp f m (h m List.mem_cons_self)
        exact absurd (decide_eq_true rfl) this
    | some n =>
      have hn := List.mem_of_find?_eq_some f
      have e : n.1 = m.1 := by
        have f2 := List.find?_some f
        simpa using f2
      show ((m.2 == n.2) && hitAll ns ms) = true ↔ _
      rw [Bool.and_eq_true, ih, beq_iff_eq]
      constructor
      · rintro ⟨h1, h2⟩ k hk
        rcases List.mem_cons.mp hk with g | g
        · subst g
          rw [show k = n from Prod.ext e.symm h1]
          exact hn
        · exact h2 k g
      · intro h
        refine ⟨?_, fun k hk => h k (List.mem_cons_of_mem _ hk)⟩
        have hm := h m List.mem_cons_self
        rw [asc_one asc hn hm e]
theorem asc_sub : ∀ {ms ns : List (Int × Int)}, (ms.Pairwise fun a b => a.1 < b.1) → (ns.Pairwise fun a b => a.1 < b.1) → (∀ m ∈ ms, m ∈ ns) → ms.Sublist ns
  | [], ns, _, _, _ => List.nil_sublist _
  | m :: ms, [], _, _, h => absurd (h m List.mem_cons_self) (List.not_mem_nil)
  | m :: ms, n :: ns, a, b, h => by
    have a2 := List.pairwise_cons.mp a
    have b2 := List.pairwise_cons.mp b
    rcases List.mem_cons.mp (h m List.mem_cons_self) with e | e
    · subst e
      refine List.Sublist.cons_cons _ (asc_sub a2.2 b2.2 fun k hk => ?_)
      rcases List.mem_cons.mp (h k (List.mem_cons_of_mem _ hk)) with g | g
      · have := a2.1 k hk
        rw [g] at this
        omega
      · exact g
    · refine List.Sublist.cons _ (asc_sub a b2.2 fun k hk => ?_)
      rcases List.mem_cons.mp (h k hk) with g | g
      · have h1 := b2.1 m e
        rcases List.mem_cons.mp hk with q | q
        · subst q
          rw [g] at h1
          omega
        · have := a2.1 k q
          rw [g] at this
          omega
      · exact g
theorem dict_eq {ms ns : List (Int × Int)} (a : ms.Pairwise fun a b => a.1 < b.1) (b : ns.Pairwise fun a b => a.1 < b.1) : (ms.length == ns.length && hitAll ns ms) = decide (ms = ns) := by
  rw [Bool.eq_iff_iff, Bool.and_eq_true, hitAll_iff b, beq_iff_eq, decide_eq_true_iff]
  constructor
  · rintro ⟨h1, h2⟩
    exact (asc_sub a b h2).eq_of_length h1
  · rintro rfl
    exact ⟨rfl, fun m h => h⟩
def spEqB (C : Addr) : Sp := fun vs H Q _ => ∃ (a b l d l' d' : Addr) (ps qs : List Int) (ms ns : List (Int × Int)), vs = [.ref a, .ref b] ∧ CalAt C H a l d ps ms ∧ CalAt C H b l' d' qs ns ∧ (ms.Pairwise fun a b => a.1 < b.1) ∧ (ns.Pairwise fun a b => a.1 < b.1) ∧ Q (.bl (decide (ps = qs ∧ ms = ns))) H
section
variable {P : Program} {w : World} {K : PySem.W.Frag} {mg : Str → Option Value} {base : Heap}
theorem scEqB : FnScope ["self", "other"] ["self", "other"] (defScope sEq) := ⟨rfl, rfl, rfl, by decide +kernel, rfl, by decide +kernel, by decide +kernel⟩
theorem shaped_ints (xs : List Int) : SeqAt.shaped (dInts xs) = true := by
  have h1 : ∀ xs : List Int, PyData.canLayAll0 (xs.map PyData.int) = true := by
    intro xs
    induction xs with
    | nil => rfl
    | cons x xs ih =>
      rw [List.map_cons]
      show (PyData.canLay0 (.int x) && PyData.canLayAll0 (xs.map PyData.int)) = true
      rw [ih]
      rfl
  have h2 : ∀ xs : List Int, PyData.depthAll (xs.map PyData.int) ≤ 0 := by
    intro xs
    induction xs with
    | nil => exact Nat.zero_le _
    | cons x xs ih =>
      rw [List.map_cons]
      simp only [PyData.depthAll, PyData.depth]
      omega
  unfold SeqAt.shaped dInts
  have e1 : PyData.canLay0 (.list (xs.map PyData.int)) = true := by
    simp only [PyData.canLay0]
    exact h1 xs
  have e2 : PyData.depth (.list (xs.map PyData.int)) ≤ 64 := by
    simp only [PyData.depth]
    have := h2 xs
    omega
  rw [e1, decide_eq_true e2]
  rfl
theorem ok_eqB {f C : Addr} {fd : FuncData} (F : Fun K "__eq__" "Calendar.__eq__" sEq f fd) (Z : Cal K mg C) (isi : mg "isinstance" = none) (IC : C8.InsC K C) : FnOk P w K mg base CX0 1 f fd ["self", "other"] (spEqB C) := by
  refine F.ok scEqB (fun vs H Q E h => ?_) (fun cdv A outer s H vs Q E hr h => ?_)
  · obtain ⟨a, b, l, d, l', d', ps, qs, ms, ns, rfl, _⟩ := h
    rfl
  · obtain ⟨a, b, l, d, l', d', ps, qs, ms, ns, rfl, c1, c2, asc, asc2, k⟩ := h
    have hu := hr.units
    refine ⟨_, pss_one (ps_ret (pe_and (pe_callB (C8.call_isC IC) (by rfl) isi (by decide +kernel) (pa_cons (pv 1) (pa_cons (C8.pe_gc (v := .ref C) (by rfl) ⟨_, Z.at_, rfl⟩) pa_nil)))
      (pe_and (pe_cmpR (op_eqD hu) (pe_fld (pv 0) rfl) (pe_fld (pv 1) rfl) (nomark _)) (pe_one (pe_cmpR (op_eqDI (Nat.lt_of_le_of_lt (Nat.le_add_right _ 64) hu)) (pe_fld (pv 0) rfl) (pe_fld (pv 1) rfl) (nomark _)))))), ?_⟩
    obtain ⟨dx, hx⟩ := c1.ob
    obtain ⟨dy, hy⟩ := c2.ob
    refine ⟨_, rfl, b, dy, _, rfl, hy, _, rfl, ?_⟩
    refine ⟨_, rfl, a, C, dx, _, _, rfl, hx, Z.cl, Z.nS, calF_s l d, _, rfl, b, C, dy, _, _, rfl, hy, Z.cl, Z.nS, calF_s l' d', dInts ps, dInts qs, dp_ints (SqL.of c1.ls), dp_ints (SqL.of c2.ls), shaped_ints _, shaped_ints _, _, rfl, ?_⟩
    rw [eqv_ints]
    refine ite2 (fun e => ?_) (fun e => ?_)
    · have e := of_decide_eq_true e
      refine ⟨_, rfl, a, C, dx, _, _, rfl, hx, Z.cl, Z.nC, calF_c l d, _, rfl, b, C, dy, _, _, rfl, hy, Z.cl, Z.nC, calF_c l' d', d, d', ms, ns, rfl, rfl, c1.dc, c2.dc, ?_⟩
      rw [dict_eq asc asc2]
      rw [show decide (ms = ns) = decide (ps = qs ∧ ms = ns) from decide_eq_decide.mpr ⟨fun h => ⟨e, h⟩, fun h => h.2⟩]
      exact k
    · have e : ¬ ps = qs := fun h => e (decide_eq_true h)
      rw [decide_eq_false (fun h => e h.1)] at k
      exact k
end

theorem joinPF_ok {f : Int → Int → Int} (hf : ∀ i j, 0 ≤ i → i ≤ 3 → 0 ≤ j → j ≤ 3 → 0 ≤ f i j ∧ f i j ≤ 3) {ps qs : List Int} (hp : Paces ps) (hq : Paces qs) (len : ps.length = qs.length) (pos : ∃ t, f (paceOf ps t) (paceOf qs t) ≠ 0) : Paces (joinP f ps qs) := by
  have jl := joinP_len (f := f) len
  refine ⟨fun v hv => ?_, ?_, by rw [jl]; exact hp.len0, by rw [jl]; exact hp.len1⟩
  · obtain ⟨a, ha, b, hb, rfl⟩ := mem_zip hv
    have g1 := hp.lo a ha
    have g2 := hq.lo b hb
    exact hf a b g1.1 g1.2 g2.1 g2.2
  · obtain ⟨t, ht⟩ := pos
    rw [← joinP_pace (f := f) len hp.len0] at ht
    exact ⟨_, pace_in (by rw [jl]; exact hp.len0), ht⟩
theorem joinMF_fit {f : Int → Int → Int} {ps qs : List Int} {ms ns : List (Int × Int)} {ks : List Int} (hf : ∀ i j, 0 ≤ i → i ≤ 3 → 0 ≤ j → j ≤ 3 → 0 ≤ f i j ∧ f i j ≤ 3) (hp : Paces ps) (hq : Paces qs) (fm : Fit ms) (fn : Fit ns) (asc : ks.Pairwise (· < ·)) (kl : ks.length ≤ 1000) : Fit (joinM f ps qs ms ns ks) := by
  refine ⟨?_, fun m hm => ?_, by unfold joinM; rw [List.length_map]; exact kl⟩
  · unfold joinM
    rw [List.pairwise_map]
    exact asc
  · obtain ⟨k', _, rfl⟩ := List.mem_map.mp hm
    have g1 := speed_lo hp fm k'
    have g2 := speed_lo hq fn k'
    exact hf _ _ g1.1 g1.2 g2.1 g2.2
theorem mxF (i j : Int) (a : 0 ≤ i) (b : i ≤ 3) (c : 0 ≤ j) (d : j ≤ 3) : 0 ≤ mxI i j ∧ mxI i j ≤ 3 := by unfold mxI; split <;> omega
theorem mnF (i j : Int) (a : 0 ≤ i) (b : i ≤ 3) (c : 0 ≤ j) (d : j ≤ 3) : 0 ≤ mnI i j ∧ mnI i j ≤ 3 := by unfold mnI; split <;> omega

/-! ### the constructor that may raise -/
def okS (v : Int) : Prop := 0 ≤ v ∧ v ≤ 3
def WrongS (xs : List Int) (k v : Int) : Prop :=
  (k = 0 ∧ v = xs.length ∧ ¬ (1 ≤ xs.length ∧ xs.length ≤ 12)) ∨
  ((1 ≤ xs.length ∧ xs.length ≤ 12) ∧ k = 1 ∧ ∃ i : Nat, v = i ∧ ∃ x, xs[i]? = some x ∧ ¬ okS x ∧ ∀ (j : Nat) (y : Int), j < i → xs[j]? = some y → okS y) ∨
  ((1 ≤ xs.length ∧ xs.length ≤ 12) ∧ (∀ x ∈ xs, okS x) ∧ k = 2 ∧ v = 0 ∧ ∀ x ∈ xs, x = 0)
def BadM (ms : List (Int × Int)) (i : Nat) : Prop := ∃ m, ms[i]? = some m ∧ (¬ okS m.2 ∨ ∃ (j : Nat) (m' : Int × Int), i = j + 1 ∧ ms[j]? = some m' ∧ m.1 ≤ m'.1)
def WrongC (ms : List (Int × Int)) (v : Int) : Prop := ∃ i : Nat, v = i ∧ BadM ms i ∧ ∀ j : Nat, j < i → ¬ BadM ms j
def Wrong (xs : List Int) (ms : List (Int × Int)) (k v : Int) : Prop := WrongS xs k v ∨ (Paces xs ∧ k = 3 ∧ WrongC ms v)
theorem fit_of {ms : List (Int × Int)} (len : ms.length ≤ 1000) (h : ∀ i, ¬ BadM ms i) : Fit ms := by
  refine ⟨?_, fun m hm => ?_, len⟩
  · have step : ∀ (i : Nat) (h1 : i + 1 < ms.length), ms[i].1 < ms[i + 1].1 := fun i h1 => by
      rcases Int.lt_or_le ms[i].1 ms[i + 1].1 with c | c
      · exact c
      · exact absurd ⟨_, List.getElem?_eq_getElem h1, .inr ⟨i, _, rfl, List.getElem?_eq_getElem (by omega), c⟩⟩ (h (i + 1))
    have far : ∀ (d i : Nat) (h1 : i + d + 1 < ms.length), ms[i].1 < ms[i + d + 1].1 := by
      intro d
      induction d with
      | zero => intro i h1; exact step i h1
      | succ d ih =>
        intro i h1
        have a := ih i (by omega)
        have b := step (i + d + 1) (by omega)
        have e : ms[i + (d + 1) + 1] = ms[i + d + 1 + 1] := rfl
        rw [e]
        omega
    rw [List.pairwise_iff_getElem]
    intro i j hi hj lt
    obtain ⟨d, rfl⟩ : ∃ d, j = i + d + 1 := ⟨j - i - 1, by omega⟩
    exact far d i hj
  · obtain ⟨i, hi, rfl⟩ := List.getElem_of_mem hm
    rcases Classical.em (okS ms[i].2) with c | c
    · exact c
    · exact absurd ⟨_, List.getElem?_eq_getElem hi, .inl c⟩ (h i)
/-- the classes by their numbers -/
def cl4 (CW CS CN CC : Addr) (k : Int) : Addr := if k = 0 then CW else if k = 1 then CS else if k = 2 then CN else CC
structure Errs (K : PySem.W.Frag) (mg : Str → Option Value) (CW CS CN CC fI : Addr) : Prop where
  eW : ErrC K CW fI
  eS : ErrC K CS fI
  eN : ErrC K CN fI
  eC : ErrC K CC fI
  gW : mg "InvalidWeek" = some (.ref CW)
  gS : mg "InvalidSpeed" = some (.ref CS)
  gN : mg "NeverOpen" = some (.ref CN)
  gC : mg "InvalidChange" = some (.ref CC)
  tI : PySem.W.typeIn K (.ref fI) = some (.type "function")
/-- what an error that is raised leaves: its own dict with the value, at a new place -/
def Rais (H : Hp) (E : XK) (C : Addr) (v : V) : Prop := ∀ (d : Addr) (H' : Hp), Same H H' → H d = none → H' d = some (.xd [(("value" : Str), v)]) → E (.ref C) (some d) H'
theorem Rais.same {H J : Hp} {E : XK} {C : Addr} {v : V} (h : Rais H E C v) (s : Same H J) : Rais J E C v := fun d H' s' nd hd => h d H' (s.trans s') (s.free nd) hd
def spChkSX (K : PySem.W.Frag) (CW CS CN CC : Addr) : Sp := fun vs H Q E => ∃ (a : Addr) (xs : List Int), vs = [.ref a] ∧ SqL K H a (xs.map V.int) ∧ (∀ k v, WrongS xs k v → Rais H E (cl4 CW CS CN CC k) (.int v)) ∧ (Paces xs → ∀ H', Same H H' → Q .non H')
def spChkCX (K : PySem.W.Frag) (CC : Addr) : Sp := fun vs H Q E => ∃ (a : Addr) (ts : List Addr) (ms : List (Int × Int)), vs = [.ref a] ∧ SqL K H a (ts.map V.ref) ∧ Tups H ts ms ∧ ms.length ≤ 1000 ∧ (∀ v, WrongC ms v → Rais H E CC (.int v)) ∧ (Fit ms → ∀ H', Same H H' → Q .non H')
def spInitX (C CW CS CN CC : Addr) (K : PySem.W.Frag) : Sp := fun vs H Q E => ∃ (x dx a b : Addr) (ps : List Int) (ts : List Addr) (ms : List (Int × Int)), vs = [.ref x, .ref a, .ref b] ∧ H x = some (.ins C dx []) ∧
  SqL K H a (ps.map V.int) ∧ SqL K H b (ts.map V.ref) ∧ Tups H ts ms ∧ ms.length ≤ 1000 ∧ a ≠ x ∧ b ≠ x ∧ (∀ k v, Wrong ps ms k v → Rais H E (cl4 CW CS CN CC k) (.int v)) ∧
  (Paces ps → Fit ms → ∀ H' l d, CalAt C H' x l d ps (realOf ps ms) → H l = none → H d = none → (∀ c o, H c = some o → c ≠ x → H' c = some o) → Q .non H')
def spChkWX (CW : Addr) : Sp := fun vs H Q E => ∃ n : Int, vs = [.int n] ∧ (¬ (1 ≤ n ∧ n ≤ 12) → Rais H E CW (.int n)) ∧ (1 ≤ n → n ≤ 12 → Q .non H)
structure AtX (P : Program) (w : World) (K : PySem.W.Frag) (mg : Str → Option Value) (base : Heap) (k : Nat) (x : Str) (ps : List Str) (sp : Sp) (f : Addr) (fd : FuncData) : Prop where
  ok : FnOk P w K mg base (L2.CX P w) k f fd ps sp
  at_ : mg x = some (.ref f)
  kp : PySem.W.keepIn K (.ref f) = true
  bi : Binds K fd ps []
section
variable {P : Program} {w : World} {K : PySem.W.Frag} {mg : Str → Option Value} {base : Heap}
theorem behind_lt {ms : List (Int × Int)} {j : Nat} {m m' : Int × Int} (hm : ms[j + 1]? = some m) (hm' : ms[j]? = some m') (h : behind ms (j + 1) = true) : m'.1 < m.1 := by
  unfold behind at h
  simp only [Nat.add_sub_cancel] at h
  rw [List.getD_eq_getElem?_getD, List.getD_eq_getElem?_getD, hm, hm'] at h
  simpa using h
theorem behind_bad {ms : List (Int × Int)} {i : Nat} {m : Int × Int} (hm : ms[i]? = some m) (h : behind ms i = false) : ∃ j m', i = j + 1 ∧ ms[j]? = some m' ∧ m.1 ≤ m'.1 := by
  cases i with
  | zero => cases h
  | succ j =>
    have hi := (List.getElem?_eq_some_iff.mp hm).1
    have hj : j < ms.length := by omega
    refine ⟨j, ms[j], rfl, List.getElem?_eq_getElem hj, ?_⟩
    unfold behind at h
    simp only [Nat.add_sub_cancel] at h
    rw [List.getD_eq_getElem?_getD, List.getD_eq_getElem?_getD, hm, List.getElem?_eq_getElem hj] at h
    simpa using h
theorem ok_chkWX {f fE CW CS CN CC : Addr} {fd dE : FuncData} (F : Fun K "check_week" "check_week" sChkWeek f fd) (C : Con mg) (R : Errs K mg CW CS CN CC fE) (F1 : FnOk P w K mg base CX0 1 fE dE ["self", "value"] (spErr K)) (b1 : Binds K dE ["self", "value"] []) :
    FnOk P w K mg base (L2.CX P w) 3 f fd ["number"] (spChkWX CW) := by
  refine F.okX scChkW (fun vs H Q E h => ?_) (fun cdv A outer s H vs Q E hr h => ?_)
  · obtain ⟨n, rfl, _⟩ := h
    rfl
  · obtain ⟨n, rfl, kw, k⟩ := h
    obtain ⟨t, ht⟩ := C.gw
    refine ⟨_, pss_one (ps_if (pt_not (pt_chain op_le op_le pe_int (pv 0) (pe_glob (v := .int 12) (by rfl) ht ⟨t, rfl⟩)))
          (pss_one (ps_raise rfl (takes_of rfl rfl rfl rfl) (pmk_oex R.eW.ox R.eW.iC R.tI F1 hr b1 .nil pass0 (by rfl) R.gW (pa_cons (pv 0) pa_nil)))) pss_nil), ?_⟩
    refine ⟨_, rfl, _, _, rfl, rfl, _, rfl, ite2 (fun g => ?_) (fun g => ?_)⟩
    rotate_left
    · have g : ¬ (1 : Int) ≤ n := fun z => g (decide_eq_true z)
      refine ⟨_, rfl, ite2 (fun _ => ?_) (fun z => absurd (show (!false) = true from rfl) z)⟩
      exact ⟨_, rfl, (by show 1 ≤ 1000; decide), fun a' na => err_made R.eW.ox R.eW.noV na fun d H' s nd hd => kw (by omega) d H' s nd hd⟩
    have g : (1 : Int) ≤ n := of_decide_eq_true g
    refine ⟨_, _, rfl, rfl, _, rfl, ite2 (fun g2 => ?_) (fun g2 => ?_)⟩
    · have g2 : ¬ n ≤ 12 := fun z => by
        rw [decide_eq_true z] at g2
        exact absurd g2 (by decide)
      exact ⟨_, rfl, (by show 1 ≤ 1000; decide), fun a' na => err_made R.eW.ox R.eW.noV na fun d H' s nd hd => kw (by omega) d H' s nd hd⟩
    have g2 : n ≤ 12 := by
      rcases Classical.em (n ≤ 12) with z | z
      · exact z
      · rw [decide_eq_false z] at g2
        exact absurd rfl g2
    exact k g g2
theorem ok_chkSX {f fI fE fW CW CS CN CC : Addr} {fd fdI dE dW : FuncData} (F : Fun K "check_speeds" "check_speeds" sChkSpeeds f fd) (C : Con mg) (T : Blt mg) (I : At P w K mg base 1 "is_speed" ["number"] spIsSpeed fI fdI)
    (W : AtX P w K mg base 3 "check_week" ["number"] (spChkWX CW) fW dW) (R : Errs K mg CW CS CN CC fE) (F1 : FnOk P w K mg base CX0 1 fE dE ["self", "value"] (spErr K)) (b1 : Binds K dE ["self", "value"] []) :
    FnOk P w K mg base (L2.CX P w) 4 f fd ["speeds"] (spChkSX K CW CS CN CC) := by
  refine F.okX scChkS (fun vs H Q E h => ?_) (fun cdv A outer s H vs Q E hr h => ?_)
  · obtain ⟨a, xs, rfl, _⟩ := h
    rfl
  · obtain ⟨a, xs, rfl, hS, kw, k⟩ := h
    have hr1 : Room 1 _ := hr.mono (by decide)
    have hr2 : Room 2 _ := hr.mono (by decide)
    refine ⟨_, pss_cons (ps_expr (pe_callS W.ok hr (by rfl) W.at_ W.kp W.bi (fun σ => passAt (W := fun cls d _ H => E cls d H) (takes_of rfl rfl rfl rfl) σ) (pa_cons (pe_callB call_len_seq (by rfl) T.len PySem.boot_len (pa_cons (pv 0) pa_nil)) pa_nil)))
      (pss_cons (ps_for (passes_of rfl) rfl (pi_enum (by rfl) C.enum (pa_cons (pv 0) pa_nil)) (pg_tup rfl (pgs_cons (pg_name (i := 1) scChkS.nd rfl (.inl rfl)) (pgs_cons (pg_name (i := 2) scChkS.nd rfl (.inl rfl)) pgs_nil)))
        (pss_one (ps_if (pt_not (pt_val (pe_call I.ok hr1 (by rfl) I.at_ I.kp I.bi .nil pass0 (pa_cons (pv 2) pa_nil))))
          (pss_one (ps_raise rfl (takes_of rfl rfl rfl rfl) (pmk_oex R.eS.ox R.eS.iC R.tI F1 hr2 b1 .nil pass0 (by rfl) R.gS (pa_cons (pv 1) pa_nil)))) pss_nil)))
      (pss_one (ps_if (pt_cmpR op_eq (pe_callB (cr_max rfl) (by rfl) T.max (by decide +kernel) (pa_cons (pv 0) pa_nil)) pe_int (nomark _))
        (pss_one (ps_raise rfl (takes_of rfl rfl rfl rfl) (pmk_oex R.eN.ox R.eN.iC R.tI F1 hr2 b1 .nil pass0 (by rfl) R.gN (pa_cons pe_int pa_nil)))) pss_nil))), ?_⟩
    have hlen : (((xs.map V.int).length : Nat) : Int) = xs.length := by rw [List.length_map]
    refine ⟨_, rfl, a, _, rfl, .inl hS, ⟨_, rfl, fun g => ?_, fun g g2 => ?_⟩⟩
    · rw [hlen] at g ⊢
      exact kw 0 _ (.inl ⟨rfl, rfl, by omega⟩)
    rw [hlen] at g g2
    have len : 1 ≤ xs.length ∧ xs.length ≤ 12 := by omega
    clear g g2
    refine ⟨_, rfl, a, _, rfl, hS, for_it (walk_enum (K := K) (a := a) (xs := xs.map V.int)) (fun i σ J => ∃ y1 y2 : Option V, σ = [some (.ref a), y1, y2] ∧ Same H J ∧ ∀ (j : Nat) (y : Int), j < i → xs[j]? = some y → okS y) ⟨none, none, rfl, Same.refl H, fun j y h => absurd h (Nat.not_lt_zero j)⟩ (fun i σ J _ ⟨_, _, _, g, _⟩ => g.seq hS) ?_ ?_⟩
    · rintro i x σ J J' hi ⟨y1, y2, rfl, hs, dn⟩ ⟨T', x1, x2, rfl, nT, rfl, e1, e2⟩
      obtain rfl := Option.some.inj e1
      have hi' : i < xs.length := by simpa using hi
      replace e2 : (List.map _ _)[i]? = some x2 := e2
      rw [List.getElem?_map, List.getElem?_eq_getElem hi'] at e2
      obtain rfl := Option.some.inj e2
      have s2 := hs.trans (same_new (o := .tup [.int (i : Nat), .int xs[i]]) nT)
      refine ⟨T', _, rfl, .inl (.inl upd_same), rfl, _, _, rfl, _, [], rfl, rfl, ?_⟩
      refine ⟨_, rfl, _, rfl, _, rfl, ite2 (fun c => ?_) (fun c => ?_)⟩
      · have c : ¬ okS xs[i] := fun z => by
          have z : 0 ≤ xs[i] ∧ xs[i] ≤ 3 := z
          rw [decide_eq_true z] at c
          exact absurd c (by decide)
        refine ⟨_, rfl, (by show 1 ≤ 1000; decide), fun a' na => err_made R.eS.ox R.eS.noV na fun d H' s nd hd => ?_⟩
        exact ((kw 1 _ (.inr (.inl ⟨len, rfl, i, rfl, _, List.getElem?_eq_getElem hi', c, dn⟩))).same s2) d H' s nd hd
      · have c : okS xs[i] := by
          show 0 ≤ xs[i] ∧ xs[i] ≤ 3
          rcases Classical.em (0 ≤ xs[i] ∧ xs[i] ≤ 3) with z | z
          · exact z
          · rw [decide_eq_false z] at c
            exact absurd rfl c
        refine ⟨_, _, rfl, s2, fun j y hj e => ?_⟩
        rcases Nat.lt_or_ge j i with q | q
        · exact dn j y q e
        · have : j = i := by omega
          subst this
          rw [List.getElem?_eq_getElem hi'] at e
          obtain rfl := Option.some.inj e
          exact c
    · rintro σ J ⟨y1, y2, rfl, hs, dn⟩
      have all : ∀ x ∈ xs, okS x := fun x hx => by
        obtain ⟨j, hj, rfl⟩ := List.getElem_of_mem hx
        exact dn j _ (by rw [List.length_map]; exact hj) (List.getElem?_eq_getElem hj)
      refine ⟨_, rfl, a, xs, rfl, hs.seq hS, by omega, fun m hm hmax => ⟨rfl, _, rfl, ite2 (fun g => ?_) (fun g => ?_)⟩⟩
      · have g : m = 0 := by
          have := of_decide_eq_true g
          injection this
        refine ⟨(by show 1 ≤ 1000; decide), fun a' na => err_made R.eN.ox R.eN.noV na fun d H' s nd hd => ?_⟩
        exact ((kw 2 0 (.inr (.inr ⟨len, all, rfl, rfl, fun x hx => by
          have := hmax x hx
          have := (all x hx).1
          omega⟩))).same hs) d H' s nd hd
      · have g : m ≠ 0 := fun z => g (decide_eq_true (by rw [z]))
        exact k ⟨all, ⟨m, hm, g⟩, by omega, by omega⟩ J hs
theorem ok_chkCX {f fI fE fB CW CS CN CC : Addr} {fd fdI dE dB : FuncData} (F : Fun K "check_changes" "check_changes" sChkChanges f fd) (C : Con mg) (T : Blt mg) (I : At P w K mg base 1 "is_speed" ["number"] spIsSpeed fI fdI)
    (Bh : At P w K mg base 1 "is_behind" ["changes", "index"] (spBehind K) fB dB) (R : Errs K mg CW CS CN CC fE) (F1 : FnOk P w K mg base CX0 1 fE dE ["self", "value"] (spErr K)) (b1 : Binds K dE ["self", "value"] []) :
    FnOk P w K mg base (L2.CX P w) 4 f fd ["changes"] (spChkCX K CC) := by
  refine F.okX scChkC (fun vs H Q E h => ?_) (fun cdv A outer s H vs Q E hr h => ?_)
  · obtain ⟨a, ts, ms, rfl, _⟩ := h
    rfl
  · obtain ⟨a, ts, ms, rfl, hS, tp, ml, kw, k⟩ := h
    have hr1 : Room 1 _ := hr.mono (by decide)
    have hr2 : Room 2 _ := hr.mono (by decide)
    refine ⟨_, pss_one (ps_for (passes_of rfl) rfl (pi_enum (by rfl) C.enum (pa_cons (pv 0) pa_nil))
        (pg_tup rfl (pgs_cons (pg_name (i := 1) scChkC.nd rfl (.inl rfl)) (pgs_cons (pg_tup rfl (pgs_cons (pg_name (i := 2) scChkC.nd rfl (.inl rfl)) (pgs_cons (pg_name (i := 3) scChkC.nd rfl (.inl rfl)) pgs_nil))) pgs_nil)))
        (pss_one (ps_if (PW.pt (pw_or (pt_not (pt_val (pe_call I.ok hr1 (by rfl) I.at_ I.kp I.bi .nil pass0 (pa_cons (pv 3) pa_nil))))
          (pw_or1 (pt_not (pt_val (pe_call Bh.ok hr1 (by rfl) Bh.at_ Bh.kp Bh.bi .nil pass0 (pa_cons (pv 0) (pa_cons (pv 1) pa_nil))))))))
          (pss_one (ps_raise rfl (takes_of rfl rfl rfl rfl) (pmk_oex R.eC.ox R.eC.iC R.tI F1 hr2 b1 .nil pass0 (by rfl) R.gC (pa_cons (pv 1) pa_nil)))) pss_nil))), ?_⟩
    have tl := tp.len
    refine ⟨_, rfl, a, _, rfl, hS, for_it (walk_enum (K := K) (a := a) (xs := ts.map V.ref)) (fun i σ J => ∃ y1 y2 y3 : Option V, σ = [some (.ref a), y1, y2, y3] ∧ Same H J ∧ ∀ j : Nat, j < i → ¬ BadM ms j) ⟨none, none, none, rfl, Same.refl H, fun j h => absurd h (Nat.not_lt_zero j)⟩ (fun i σ J _ ⟨_, _, _, _, g, _⟩ => g.seq hS) ?_ ?_⟩
    · rintro i x σ J J' hi ⟨y1, y2, y3, rfl, hs, dn⟩ ⟨T', x1, x2, rfl, nT, rfl, e1, e2⟩
      obtain rfl := Option.some.inj e1
      have hi' : i < ts.length := by simpa using hi
      replace e2 : (List.map _ _)[i]? = some x2 := e2
      rw [List.getElem?_map, List.getElem?_eq_getElem hi'] at e2
      obtain rfl := Option.some.inj e2
      have s2 := hs.trans (same_new (o := .tup [.int (i : Nat), .ref ts[i]]) nT)
      obtain ⟨m, hm, hm2⟩ := (tp.same s2).get (List.getElem?_eq_getElem hi')
      have bad : BadM ms i → Rais (upd J T' (.tup [.int (i : Nat), .ref ts[i]])) E CC (.int (i : Nat)) := fun b => (kw _ ⟨i, rfl, b, dn⟩).same s2
      have more : ¬ BadM ms i → ∀ j : Nat, j < i + 1 → ¬ BadM ms j := fun b j hj => by
        rcases Nat.lt_or_ge j i with q | q
        · exact dn j q
        · have : j = i := by omega
          subst this
          exact b
      refine ⟨T', _, rfl, .inl (.inl upd_same), rfl, _, _, rfl, _, [], rfl, ⟨_, _, rfl, .inl (.inl hm2), rfl, _, _, rfl, _, [], rfl, rfl, rfl, ?_⟩⟩
      refine ⟨_, rfl, _, rfl, _, rfl, ?_⟩
      by_cases c : okS m.2
      · rw [decide_eq_true (show 0 ≤ m.2 ∧ m.2 ≤ 3 from c)]
        refine ⟨_, rfl, _, rfl, ⟨a, ts, ms, i, rfl, s2.seq hS, tp.same s2, by omega, ?_⟩⟩
        cases hb : behind ms i with
        | true =>
          refine ⟨_, rfl, _, _, _, rfl, s2, more fun b => ?_⟩
          obtain ⟨n, hn, q⟩ := b
          rw [hm] at hn
          obtain rfl := Option.some.inj hn
          rcases q with q | ⟨j', n', e, hn', q⟩
          · exact q c
          · subst e
            have z := behind_lt hm hn' hb
            omega
        | false =>
          obtain ⟨j, m', e, hm', g3⟩ := behind_bad hm hb
          exact ⟨_, rfl, _, rfl, (by show 1 ≤ 1000; decide), fun a' na => err_made R.eC.ox R.eC.noV na fun d H' s nd hd => bad ⟨m, hm, .inr ⟨j, m', e, hm', g3⟩⟩ d H' s nd hd⟩
      · rw [decide_eq_false (show ¬ (0 ≤ m.2 ∧ m.2 ≤ 3) from c)]
        exact ⟨_, rfl, (by show 1 ≤ 1000; decide), fun a' na => err_made R.eC.ox R.eC.noV na fun d H' s nd hd => bad ⟨m, hm, .inl c⟩ d H' s nd hd⟩
    · rintro σ J ⟨y1, y2, y3, rfl, hs, dn⟩
      refine k (fit_of ml fun i b => ?_) J hs
      rcases Nat.lt_or_ge i ts.length with q | q
      · exact dn i (by rw [List.length_map]; exact q) b
      · obtain ⟨m, hm, _⟩ := b
        rw [List.getElem?_eq_none (by omega)] at hm
        cases hm
theorem ok_initX {f fS fC C CW CS CN CC : Addr} {fd fdS fdC : FuncData} (F : Fun K "__init__" "Calendar.__init__" sInit f fd) (Z : Cal K mg C) (T : Blt mg)
    (S : AtX P w K mg base 4 "check_speeds" ["speeds"] (spChkSX K CW CS CN CC) fS fdS) (B : AtX P w K mg base 4 "check_changes" ["changes"] (spChkCX K CC) fC fdC) :
    FnOk P w K mg base (L2.CX P w) 5 f fd ["self", "speeds", "changes"] (spInitX C CW CS CN CC K) := by
  refine F.okX scInit (fun vs H Q E h => ?_) (fun cdv A outer s H vs Q E hr h => ?_)
  · obtain ⟨x, dx, a, b, ps, ts, ms, rfl, _⟩ := h
    rfl
  · obtain ⟨x, dx, a, b, ps, ts, ms, rfl, hx, ha, hb, tp, ml, ax, bx, kw, k⟩ := h
    refine ⟨_, pss_cons (ps_expr (pe_callS S.ok hr (by rfl) S.at_ S.kp S.bi (fun σ => passAt (W := fun cls d _ H => E cls d H) (takes_of rfl rfl rfl rfl) σ) (pa_cons (pv 1) pa_nil)))
      (pss_cons (ps_expr (pe_callS B.ok hr (by rfl) B.at_ B.kp B.bi (fun σ => passAt (W := fun cls d _ H => E cls d H) (takes_of rfl rfl rfl rfl) σ) (pa_cons (pv 2) pa_nil)))
      (pss_cons (ps_fld (pv 0) (pe_callTy call_list_of (by rfl) T.list (by decide +kernel) (pa_cons (pv 1) pa_nil)) rfl)
      (pss_one (ps_fld (pv 0) (pe_dc (own := [("moment", 3), ("speed", 4)]) (g := gTup K 2 (gCons (gName 3) (gCons (gName 4) gNil))) rfl scInit.nd (pi_list (pv 2)) (blkOk_by (N := ["self", "speeds", "changes", "moment", "speed"]) (sc := defScope sInit) (by decide +kernel))
        (fun _ _ _ _ _ => pg_tup rfl (pgs_cons (pg_name (i := 3) scInit.nd rfl (.inl rfl)) (pgs_cons (pg_name (i := 4) scInit.nd rfl (.inl rfl)) pgs_nil)))
        (fun _ _ _ _ _ => pts_one (pt_cmpR op_ne (pv 4) (pe_ix (r := rIxL K) ix_list (pv 1) (pe_op op_mod (pv 3) (pe_callB (r := rLen K) call_len_seq (by rfl) T.len PySem.boot_len (pa_cons (pv 1) pa_nil))) (fun _ _ => rfl)) (nomark _)))
        (fun _ _ _ _ _ => pv 3) (fun _ _ _ _ _ => pv 4)) rfl)))), ?_⟩
    refine ⟨_, rfl, a, ps, rfl, ha, fun k v hw => kw k v (.inl hw), fun hp H1 s1 => ?_⟩
    have l0 := hp.len0
    have l1 := hp.len1
    refine ⟨_, rfl, b, ts, ms, rfl, s1.seq hb, tp.same s1, ml, fun v hw => (kw 3 v (.inr ⟨hp, rfl, hw⟩)).same s1, fun fit H2 s2 => ?_⟩
    replace k := k hp fit
    have s12 := s1.trans s2
    refine ⟨_, rfl, a, _, rfl, .inl (s12.seq ha), fun l hl => ?_⟩
    have hx2 := s12 _ _ hx
    have xl : x ≠ l := ne_of_none hx2 hl
    refine ⟨_, rfl, x, C, dx, _, rfl, (by rw [upd_ne xl]; exact hx2), Z.cl, Z.nS, (by show 0 < 1000; decide), ?_⟩
    generalize hH3 : upd (upd H2 l (.lst (ps.map V.int))) x (.ins C dx (putF "_speeds" (.ref l) [])) = H3
    have f3 : ∀ c o, H c = some o → c ≠ x → H3 c = some o := fun c o e g => by
      have e2 := s12 _ _ e
      rw [← hH3, upd_ne g, upd_ne (ne_of_none e2 hl)]
      exact e2
    have sq : ∀ {c : Addr} {xs : List V}, c ≠ x → SqL K H c xs → SqL K H3 c xs := fun {c xs} g h => by
      rcases h with (h | ⟨o, h⟩) | h
      · exact .inl (.inl (f3 _ _ h g))
      · exact .inl (.inr ⟨o, f3 _ _ h g⟩)
      · exact .inr h
    have hx3 : H3 x = some (.ins C dx (putF "_speeds" (.ref l) [])) := by rw [← hH3]; exact upd_same
    have hl3 : H3 l = some (.lst (ps.map V.int)) := by rw [← hH3, upd_ne xl.symm]; exact upd_same
    have tp3 : Tups H3 ts ms := tp.imp fun t xs e => f3 _ _ e fun z => by
      rw [z, hx] at e
      cases e
    have tl := tp.len
    refine ⟨_, rfl, b, rfl, ⟨_, sq bx hb⟩, fun D hD => dc_it (walk_list (K := K) (a := b) (xs := ts.map V.ref)) (fun i J => J D = some (.dK ((realOf ps (ms.take i)).map kvP)) ∧ ∀ c o, H3 c = some o → J c = some o) ⟨upd_same, same_new hD⟩
      (fun i J _ h => (show Same H3 J from h.2).seq (sq bx hb)) ?_ ?_⟩
    · rintro i y J J' hi ⟨hJ, sJ⟩ ⟨rfl, hy⟩
      have hi' : i < ts.length := by simpa using hi
      rw [List.getElem?_map, List.getElem?_eq_getElem hi'] at hy
      obtain rfl := Option.some.inj hy
      obtain ⟨m, hm, hm2⟩ := (tp3.same (show Same H3 J' from sJ)).get (List.getElem?_eq_getElem hi')
      have et : ms.take (i + 1) = ms.take i ++ [m] := by rw [List.take_add_one, hm]; rfl
      refine ⟨_, _, rfl, .inl (.inl hm2), rfl, _, _, rfl, _, [], rfl, rfl, rfl, ?_⟩
      have hb' := sq ax ha
      have ha' : SqL K J' a (ps.map V.int) := (show Same H3 J' from sJ).seq hb'
      refine ⟨_, rfl, _, rfl, _, rfl, _, rfl, a, _, rfl, .inl ha', _, _, rfl, rfl, (by rw [List.length_map]; omega), a, _, _, _, rfl, rfl, ha', (by rw [List.length_map]; exact atI_pace l0), rfl, ?_⟩
      have ei : decide (V.int m.2 = V.int (paceOf ps m.1)) = decide (m.2 = paceOf ps m.1) := by
        rw [decide_eq_decide]
        exact ⟨fun e => by injection e, fun e => by rw [e]⟩
      rw [ei]
      by_cases hc : m.2 = paceOf ps m.1
      · rw [decide_eq_true hc]
        refine ⟨false, rfl, ?_, sJ⟩
        rw [et]
        unfold realOf
        rw [List.filter_append]
        have : List.filter (fun m => decide (m.2 ≠ paceOf ps m.1)) [m] = [] := by simp [hc]
        rw [this, List.append_nil]
        exact hJ
      · rw [decide_eq_false hc]
        have hr' : ((realOf ps (ms.take i)).map kvP).length < sizeLine := by
          rw [List.length_map]
          refine small1000 (Nat.le_trans (List.length_filter_le _ _) ?_)
          rw [List.length_take]
          have := fit.len
          omega
        have hv : valV ((realOf ps (ms.take i)).map kvP) (Sum.inl m.1 : Key) = none := by
          rw [valV_kvP, List.find?_eq_none.mpr]
          · rfl
          · intro m' hm' e'
            have h1 := (List.mem_filter.mp hm').1
            obtain ⟨j, hj, e⟩ := List.getElem_of_mem h1
            rw [List.length_take] at hj
            rw [List.getElem_take] at e
            have hi2 : i < ms.length := by omega
            have hlt := List.pairwise_iff_getElem.mp fit.asc j i (by omega) hi2 (by omega)
            rw [List.getElem?_eq_getElem hi2] at hm
            have := Option.some.inj hm
            have e3 : m'.1 = m.1 := by simpa using e'
            rw [e, this, e3] at hlt
            omega
        refine ⟨true, rfl, _, rfl, _, rfl, _, Sum.inl m.1, rfl, hJ, hr', ?_, fun c o e => ?_⟩
        · rw [upd_same, putK_new _ hv, et]
          unfold realOf
          rw [List.filter_append]
          have : List.filter (fun m => decide (m.2 ≠ paceOf ps m.1)) [m] = [m] := by simp [hc]
          rw [this, List.map_append]
          rfl
        · rw [upd_ne (ne_of_none e hD)]
          exact sJ c o e
    · rintro J ⟨hJ, sJ⟩
      rw [List.length_map, tl, List.take_length] at hJ
      refine ⟨_, rfl, x, C, dx, _, rfl, sJ _ _ hx3, Z.cl, Z.nC, (by show 1 < 1000; decide), ?_⟩
      have xD : x ≠ D := ne_of_none hx3 hD
      refine k _ l D ⟨⟨dx, upd_same⟩, ?_, ?_⟩ (s12.free hl) ?_ fun c o e g => ?_
      · rw [upd_ne xl.symm]
        exact sJ _ _ hl3
      · rw [upd_ne xD.symm]
        exact hJ
      · cases e : H D with
        | none => rfl
        | some o =>
          rw [f3 D o e (fun z => xD z.symm)] at hD
          cases hD
      · rw [upd_ne g]
        exact sJ _ _ (f3 c o e g)
end

/-! ### a | b and a & b that may raise -/
section
variable {X : Cx} {CX : CXT} {k : Nat} {f C : Addr} {fd : FuncData} {ps : List Str} {sp : Sp} {E : L2.St → XK} {a b : Expr} {ta tb : TE} {pos : Pos}
def rBinX (C : Addr) (sp : Sp) (E : XK) : R2 := fun x y H Q => ∃ a b dx dy fs gs, x = .ref a ∧ y = .ref b ∧ H a = some (.ins C dx fs) ∧ H b = some (.ins C dy gs) ∧ sp [.ref a, .ref b] H (fun r H' => (∃ c, r = .ref c) ∧ Q r H') E
def tBinX (C : Addr) (sp : Sp) (E : L2.St → XK) (ta tb : TE) : TE := fun σ H Q => tOp (rBinX C sp (E σ)) ta tb σ H Q
theorem pe_binX {op : Operator} (o : Own X.K C (PySem.dunder op.info.2) f) (first : PySem.W.selfFirst X.K C = true) (F : FnOk X.prog X.w X.K X.mg X.base CX k f fd ps sp) (hr : Room k X.A) (hb : Binds X.K fd ps []) (hx : ∀ σ, PassesAt CX X σ (E σ))
    (ha : PE X a ta) (hb2 : PE X b tb) : PE X (.BinOp a op b pos) (tBinX C sp E ta tb) := by
  refine ⟨fun pins s σ H Q I h => ?_⟩
  refine wpAny_BinOp (binT ha hb2 I h fun v u s2 x y H2 I2 rx ry q => ?_)
  obtain ⟨a, b, dx, dy, fs, gs, rfl, rfl, ea, eb, hq⟩ := q
  obtain rfl : v = Value.ref a := rx
  obtain rfl : u = Value.ref b := ry
  obtain ⟨m, fr⟩ := I2.fr
  obtain ⟨mA, O, _⟩ := ins_get I2.hok ea
  obtain ⟨od, J, _⟩ := O.look
  obtain ⟨mB, O2, _⟩ := ins_get I2.hok eb
  obtain ⟨od2, J2, _⟩ := O2.look
  refine PySem.W.binop_K fr I2.ok.mod.kin J J2.type first o.at_ o.fn (thn (run_fnS F hr hb (hx σ) I2 (.cons (show L2.RelV (V.ref a) (Value.ref a) from rfl) (.cons (show L2.RelV (V.ref b) (Value.ref b) from rfl) .nil)) hq) fun r s2 hh => ?_)
  obtain ⟨z, H2, I2, rz, ⟨c, ec⟩, q2⟩ := hh
  subst ec
  obtain rfl : r = Value.ref c := rz
  exact ⟨.ref c, H2, I2, rfl, q2⟩
end
/-- the error whose value is both weeks -/
def RaisT (H : Hp) (E : XK) (C : Addr) (n m : Int) : Prop := ∀ (t d : Addr) (H' : Hp), Same H H' → H d = none → H' d = some (.xd [(("value" : Str), .ref t)]) → H' t = some (.tup [.int n, .int m]) → E (.ref C) (some d) H'
theorem RaisT.same {H J : Hp} {E : XK} {C : Addr} {n m : Int} (h : RaisT H E C n m) (s : Same H J) : RaisT J E C n m := fun t d H' s' nd hd ht => h t d H' (s.trans s') (s.free nd) hd ht
theorem fit_nobad {ms : List (Int × Int)} (f : Fit ms) (i : Nat) : ¬ BadM ms i := by
  rintro ⟨m, hm, b | ⟨j, m', rfl, hm', le⟩⟩
  · exact b (f.val m (List.mem_of_getElem? hm))
  · obtain ⟨h1, e1⟩ := List.getElem?_eq_some_iff.mp hm
    obtain ⟨h2, e2⟩ := List.getElem?_eq_some_iff.mp hm'
    have := List.pairwise_iff_getElem.mp f.asc j (j + 1) h2 h1 (by omega)
    rw [e1, e2] at this
    omega
def spWeeksX (C CU : Addr) : Sp := fun vs H Q E => ∃ (a b l d l' d' : Addr) (ps qs : List Int) (ms ns : List (Int × Int)), vs = [.ref a, .ref b] ∧ CalAt C H a l d ps ms ∧ CalAt C H b l' d' qs ns ∧ (ps.length ≠ qs.length → RaisT H E CU ps.length qs.length) ∧ (ps.length = qs.length → Q .non H)
def spPairsX (C CU : Addr) : Sp := fun vs H Q E => ∃ (a b l d l' d' : Addr) (ps qs : List Int) (ms ns : List (Int × Int)), vs = [.ref a, .ref b] ∧ CalAt C H a l d ps ms ∧ CalAt C H b l' d' qs ns ∧ 0 < ps.length ∧ ms.length + ns.length ≤ 60 ∧
  (ps.length ≠ qs.length → RaisT H E CU ps.length qs.length) ∧ (ps.length = qs.length → 
  ∀ (H' : Hp) (r W L : Addr) (ws cs : List Addr) (ks : List Int), Same H H' → H' r = some (.tup [.ref W, .ref L]) → H' W = some (.lst (ws.map V.ref)) → ws.length = ps.length → PairsAt H' (ps.map V.int) (qs.map V.int) ws →
    H' L = some (.lst (cs.map V.ref)) → cs.length = ks.length → ChAt H' ps qs ms ns ks cs → ks.Pairwise (· < ·) → (∀ k, k ∈ ks ↔ k ∈ (ms ++ ns).map (·.1)) → ks.length ≤ ms.length + ns.length → Q (.ref r) H')
def spJoinX (f : Int → Int → Int) (C CU CN : Addr) : Sp := fun vs H Q E => ∃ (a b l d l' d' : Addr) (ps qs : List Int) (ms ns : List (Int × Int)), vs = [.ref a, .ref b] ∧ CalAt C H a l d ps ms ∧ CalAt C H b l' d' qs ns ∧ Paces ps ∧ Paces qs ∧ Fit ms ∧ Fit ns ∧ ms.length + ns.length ≤ 60 ∧
  (ps.length ≠ qs.length → RaisT H E CU ps.length qs.length) ∧ (ps.length = qs.length → (∀ v ∈ joinP f ps qs, v = 0) → Rais H E CN (.int 0)) ∧
  (ps.length = qs.length → Paces (joinP f ps qs) → ∀ (H' : Hp) (y l2 d2 : Addr) (ks : List Int), ks.Pairwise (· < ·) → (∀ k, k ∈ ks ↔ k ∈ (ms ++ ns).map (·.1)) → ks.length ≤ ms.length + ns.length → Same H H' → CalAt C H' y l2 d2 (joinP f ps qs) (realOf (joinP f ps qs) (joinM f ps qs ms ns ks)) → H y = none → H l2 = none → H d2 = none → Q (.ref y) H')
section
variable {P : Program} {w : World} {K : PySem.W.Frag} {mg : Str → Option Value} {base : Heap}
theorem ok_weeksX {f C p1 g1 CU fE : Addr} {fd d1 dE : FuncData} (F : Fun K "check_weeks" "check_weeks" sWeeks f fd) (Z : Cal K mg C) (W1 : Pp P w K mg base C "week" (spWeek C) p1 g1 d1)
    (R : ErrC K CU fE) (tI : PySem.W.typeIn K (.ref fE) = some (.type "function")) (gU : mg "UnlikeWeeks" = some (.ref CU)) (F1 : FnOk P w K mg base CX0 1 fE dE ["self", "value"] (spErr K)) (b1 : Binds K dE ["self", "value"] []) :
    FnOk P w K mg base (L2.CX P w) 3 f fd ["one", "other"] (spWeeksX C CU) := by
  refine F.okX scWeeks (fun vs H Q E h => ?_) (fun cdv A outer s H vs Q E hr h => ?_)
  · obtain ⟨a, b, l, d, l', d', ps, qs, ms, ns, rfl, _⟩ := h
    rfl
  · obtain ⟨a, b, l, d, l', d', ps, qs, ms, ns, rfl, c1, c2, kw, k⟩ := h
    refine ⟨_, pss_one (ps_if (pt_cmpR op_ne (pe_prop (pv 0) Z.cl W1.of W1.ok hr W1.bi .nil pass0 rfl) (pe_prop (pv 1) Z.cl W1.of W1.ok hr W1.bi .nil pass0 rfl) (nomark _))
      (pss_one (ps_raise rfl (takes_of rfl rfl rfl rfl) (pmk_oex R.ox R.iC tI F1 hr b1 .nil pass0 (by rfl) gU (pa_cons (pe_tup (pa_cons (pe_prop (pv 0) Z.cl W1.of W1.ok hr W1.bi .nil pass0 rfl) (pa_cons (pe_prop (pv 1) Z.cl W1.of W1.ok hr W1.bi .nil pass0 rfl) pa_nil))) pa_nil)))) pss_nil), ?_⟩
    obtain ⟨dx, hx⟩ := c1.ob
    obtain ⟨dy, hy⟩ := c2.ob
    refine ⟨_, rfl, a, dx, _, rfl, hx, ⟨a, l, d, ps, ms, rfl, c1, ⟨_, rfl, b, dy, _, rfl, hy, ⟨b, l', d', qs, ns, rfl, c2, ⟨rfl, _, rfl, ?_⟩⟩⟩⟩⟩
    by_cases g : ps.length = qs.length
    · rw [g, decide_eq_true rfl]
      exact ite2 (fun g => absurd g (by decide)) (fun _ => k g)
    · have g' : ¬ (V.int (ps.length : Nat) : V) = V.int (qs.length : Nat) := fun z => by
        injection z with z
        omega
      rw [decide_eq_false g']
      refine ite2 (fun _ => ?_) (fun z => absurd (show (!false) = true from rfl) z)
      refine ⟨_, rfl, a, dx, _, rfl, hx, ⟨a, l, d, ps, ms, rfl, c1, ⟨_, rfl, b, dy, _, rfl, hy, ⟨b, l', d', qs, ns, rfl, c2, ⟨(by show 2 ≤ sizeLine; decide), fun t nt => ?_⟩⟩⟩⟩⟩
      have st := same_new (o := .tup [.int (ps.length : Nat), .int (qs.length : Nat)]) nt
      refine ⟨(by show 1 ≤ 1000; decide), fun a' na => err_made R.ox R.noV na fun d H' s nd hd => ?_⟩
      exact kw g t d H' (st.trans s) (st.free nd) hd (s _ _ upd_same)
theorem ok_pairsX {f fW fC fG C CU p2 g2 : Addr} {fd dW dG d2 : FuncData} (F : Fun K "speed_pairs" "speed_pairs" sPairs f fd) (T : Blt mg) (T6 : Blt6 mg) (Z : Cal K mg C) (Cw : AtX P w K mg base 3 "check_weeks" ["one", "other"] (spWeeksX C CU) fW dW) (Ch : AtR P w K mg base 3 "changed_moments" (spChanged C) fC)
    (oG : Own K C "__getitem__" fG) (Gg : FnOk P w K mg base CX0 1 fG dG ["self", "at"] (spGet C)) (bG : Binds K dG ["self", "at"] []) (W2 : Pp P w K mg base C "speeds" (spSpeeds C) p2 g2 d2) : FnOk P w K mg base (L2.CX P w) 4 f fd ["one", "other"] (spPairsX C CU) := by
  refine F.okX scPairs (fun vs H Q E h => ?_) (fun cdv A outer s H vs Q E hr h => ?_)
  · obtain ⟨a, b, l, d, l', d', ps, qs, ms, ns, rfl, _⟩ := h
    rfl
  · obtain ⟨a, b, l, d, l', d', ps, qs, ms, ns, rfl, c1, c2, l0, le, kw, k⟩ := h
    have hr2 : Room 2 _ := hr.mono (by decide)
    refine ⟨_, pss_cons (ps_expr (pe_callS Cw.ok hr (by rfl) Cw.at_ Cw.kp Cw.bi (fun σ => passAt (W := fun cls d _ H => E cls d H) (takes_of rfl rfl rfl rfl) σ) (pa_cons (pv 0) (pa_cons (pv 1) pa_nil))))
      (pss_cons (ps_set (i := 2) scPairs.nd rfl (.inl rfl) (pe_listZip rfl (by rfl) T.list (by decide +kernel) (by rfl) T6.zip (pa_cons (pe_prop (pv 0) Z.cl W2.of W2.ok hr2 W2.bi .nil pass0 rfl) (pa_cons (pe_prop (pv 1) Z.cl W2.of W2.ok hr2 W2.bi .nil pass0 rfl) pa_nil))))
      (pss_one (ps_ret (pe_tup (pa_cons (pv 2) (pa_cons (pe_lc (own := [("at", 3)]) (g := gName 3) (tt := tYes) rfl scPairs.nd (pi_list (pe_callR Ch.ok hr (by rfl) Ch.at_ Ch.kp pass0 (pa_cons (pv 0) (pa_cons (pv 1) pa_nil))))
          (blkOk_by (N := ["one", "other", "weekly", "at"]) (sc := defScope sPairs) (by decide +kernel)) (fun _ _ _ _ _ => pg_name (i := 3) scPairs.nd rfl (.inl rfl)) (fun _ _ _ _ _ => pts_nil)
          (fun _ _ _ _ _ => pe_tup (pa_cons (pv 3) (pa_cons (pe_tup (pa_cons (ix_own oG Gg hr2 bG (pv 0) (pv 3)) (pa_cons (ix_own oG Gg hr2 bG (pv 1) (pv 3)) pa_nil))) pa_nil)))) pa_nil)))))), ?_⟩
    obtain ⟨dx, hx⟩ := c1.ob
    obtain ⟨dy, hy⟩ := c2.ob
    refine ⟨_, rfl, _, rfl, ⟨a, b, l, d, l', d', ps, qs, ms, ns, rfl, c1, c2, kw, fun len => ?_⟩⟩
    replace k := k len
    refine ⟨_, rfl, a, dx, _, rfl, hx, ⟨a, l, d, ps, ms, rfl, c1, fun q1 n1 => ?_⟩⟩
    have s1 := same_new (o := .lst (ps.map V.int)) n1
    refine ⟨_, rfl, b, dy, _, rfl, s1 _ _ hy, ⟨b, l', d', qs, ns, rfl, c2.same s1, fun q2 n2 => ?_⟩⟩
    have s2 := same_new (o := .lst (qs.map V.int)) n2
    refine ⟨q1, q2, _, _, rfl, s2 _ _ upd_same, upd_same, by rw [List.length_map, List.length_map]; exact len, fun H1 S ws s3 nS hS wl pr _ _ => ?_⟩
    rw [List.length_map] at wl
    have s03 := (s1.trans s2).trans s3
    refine ⟨_, rfl, _, rfl, _, rfl, ⟨a, b, l, d, l', d', ps, qs, ms, ns, rfl, c1.same s03, c2.same s03, le, fun H2 q ks s4 nq asc mem kl hq => ?_⟩⟩
    have s04 := s03.trans s4
    have cA := c1.same s04
    have cB := c2.same s04
    refine ⟨q, rfl, ⟨_, SqL.of hq⟩, fun L nL => lc_list (K := K) (a := q) (xs := ks.map V.int) (fun i J => ∃ cs : List Addr, J L = some (.lst (cs.map V.ref)) ∧ cs.length = i ∧ ChAt J ps qs ms ns ks cs ∧ Same H2 J) ⟨[], upd_same, rfl, fun j c e => by simp at e, same_new nL⟩ (fun i J _ ⟨_, _, _, _, h⟩ => SqL.of (h _ _ hq)) ?_ ?_⟩
    · rintro i y J hi' ⟨cs, hJ, cl, ch, sJ⟩
      have hi2 : i < ks.length := by
        have := (List.getElem?_eq_some_iff.mp hi').1
        simpa using this
      rw [List.getElem?_map, List.getElem?_eq_getElem hi2] at hi'
      obtain rfl := Option.some.inj hi'
      have cA2 := cA.same sJ
      have cB2 := cB.same sJ
      obtain ⟨dx2, hx2⟩ := cA2.ob
      obtain ⟨dy2, hy2⟩ := cB2.ob
      refine ⟨rfl, _, rfl, _, rfl, _, rfl, a, dx2, _, rfl, hx2, ⟨a, l, d, ps, ms, ks[i], rfl, cA2, l0, ?_⟩⟩
      refine ⟨_, rfl, _, rfl, b, dy2, _, rfl, hy2, ⟨b, l', d', qs, ns, ks[i], rfl, cB2, by omega, ?_⟩⟩
      refine ⟨(by show 2 ≤ sizeLine; decide), fun u nu => ⟨(by show 2 ≤ sizeLine; decide), fun c nc => ?_⟩⟩
      have e1 := same_new (o := .tup [.int (speedAt ps ms ks[i]), .int (speedAt qs ns ks[i])]) nu
      have e2 := same_new (o := .tup [.int ks[i], .ref u]) nc
      have e12 := e1.trans e2
      have put : ∀ {D : Addr} {o : HO} {xs : List V} {Y : Hp}, Y L = some (.lst xs) → Y D = some o → (∀ z, o ≠ .lst z) → (upd Y L (.lst ((cs ++ [c]).map V.ref))) D = some o := fun {D o xs Y} g e z => by
        rw [upd_ne fun q => by rw [q, g] at e; exact z _ (Option.some.inj e).symm]
        exact e
      refine ⟨_, e12 _ _ hJ, by rw [List.length_map]; exact small1000 (by omega), cs ++ [c], ?_, by rw [List.length_append, cl]; rfl, fun j t e => ?_, fun t o e => ?_⟩
      · rw [upd_same, List.map_append]
        rfl
      · rw [show cs.map V.ref ++ [V.ref c] = (cs ++ [c]).map V.ref by rw [List.map_append]; rfl]
        rcases Nat.lt_trichotomy j cs.length with g | g | g
        · rw [List.getElem?_append_left g] at e
          obtain ⟨kk, uu, k1, k2, k3⟩ := (ch.same e12) j t e
          exact ⟨kk, uu, k1, put (e12 _ _ hJ) k2 (fun z q => nomatch q), put (e12 _ _ hJ) k3 (fun z q => nomatch q)⟩
        · subst g
          have : c = t := by simpa using e
          subst this
          exact ⟨ks[i], u, by rw [cl]; exact List.getElem?_eq_getElem hi2, put (e12 _ _ hJ) upd_same (fun z q => nomatch q), put (e12 _ _ hJ) (e2 _ _ upd_same) (fun z q => nomatch q)⟩
        · rw [List.getElem?_eq_none (by rw [List.length_append, List.length_singleton]; omega)] at e
          cases e
      · rw [upd_ne (ne_of_none e nL)]
        exact e12 _ _ (sJ t o e)
    · rintro J ⟨cs, hJ, cl, ch, sJ⟩
      rw [List.length_map] at cl
      refine ⟨(by show 2 ≤ sizeLine; decide), fun r nr => ?_⟩
      have s5 := same_new (o := .tup [.ref S, .ref L]) nr
      have sA := (s4.trans sJ).trans s5
      exact k _ r S L ws cs ks (s03.trans sA) upd_same (sA _ _ hS) wl (pr.same sA) (s5 _ _ hJ) cl (ch.same s5) asc mem kl
end

theorem join_wrong {f : Int → Int → Int} (hf : ∀ i j, 0 ≤ i → i ≤ 3 → 0 ≤ j → j ≤ 3 → 0 ≤ f i j ∧ f i j ≤ 3) {ps qs : List Int} {ks : List (Int × Int)} {k v : Int} (hp : Paces ps) (hq : Paces qs) (len : ps.length = qs.length) (fj : Fit ks) (w : Wrong (joinP f ps qs) ks k v) : k = 2 ∧ v = 0 ∧ ∀ x ∈ joinP f ps qs, x = 0 := by
  have jl := joinP_len (f := f) len
  have l0 := hp.len0
  have l1 := hp.len1
  have all : ∀ x ∈ joinP f ps qs, okS x := fun x hx => by
    obtain ⟨a, ha, b, hb, rfl⟩ := mem_zip hx
    have g1 := hp.lo a ha
    have g2 := hq.lo b hb
    exact hf a b g1.1 g1.2 g2.1 g2.2
  rcases w with (⟨_, _, n⟩ | ⟨_, _, i, _, x, hx, nx, _⟩ | ⟨_, _, rfl, rfl, z⟩) | ⟨_, _, i, _, b, _⟩
  · exact absurd (by rw [jl]; omega) n
  · exact absurd (all x (List.mem_of_getElem? hx)) nx
  · exact ⟨rfl, rfl, z⟩
  · exact (fit_nobad fj i b).elim
section
variable {P : Program} {w : World} {K : PySem.W.Frag} {mg : Str → Option Value} {base : Heap}
theorem ok_orX {f fS fI C CW CS CN CC CU : Addr} {fd dS dI : FuncData} (F : Fun K "__or__" "Calendar.__or__" sOr f fd) (T : Blt mg) (Z : Cal K mg C) (MK : Mk K C fI) (GI : FnOk P w K mg base (L2.CX P w) 5 fI dI ["self", "speeds", "changes"] (spInitX C CW CS CN CC K)) (bI : Binds K dI ["self", "speeds", "changes"] [])
    (Pr : AtX P w K mg base 4 "speed_pairs" ["one", "other"] (spPairsX C CU) fS dS) : FnOk P w K mg base (L2.CX P w) 7 f fd ["self", "other"] (spJoinX mxI C CU CN) := by
  refine F.okX scOr (fun vs H Q E h => ?_) (fun cdv A outer s H vs Q E hr h => ?_)
  · obtain ⟨a, b, l, d, l', d', ps, qs, ms, ns, rfl, _⟩ := h
    rfl
  · obtain ⟨a, b, l, d, l', d', ps, qs, ms, ns, rfl, c1, c2, hp, hq, fm, fn, le, ku, kn, k⟩ := h
    have hr4 : Room 4 _ := hr.mono (by decide)
    have hu := hr.units
    refine ⟨_, pss_cons (ps_asg (pe_callS Pr.ok hr4 (by rfl) Pr.at_ Pr.kp Pr.bi (fun σ => passAt (W := fun cls d _ H => E cls d H) (takes_of rfl rfl rfl rfl) σ) (pa_cons (pv 0) (pa_cons (pv 1) pa_nil))) (pg_tup rfl (pgs_cons (pg_name (i := 2) scOr.nd rfl (.inl rfl)) (pgs_cons (pg_name (i := 3) scOr.nd rfl (.inl rfl)) pgs_nil))))
      (pss_one (ps_ret (pe_makeS MK GI hr (by rfl) Z.at_ bI .nil (fun σ => passAt (W := fun cls d _ H => E cls d H) (takes_of rfl rfl rfl rfl) σ) (pa_cons (pe_lc (own := [("pair", 4)]) (g := gName 4) (tt := tYes) rfl scOr.nd (pi_list (pv 2))
          (blkOk_by (N := ["self", "other", "weekly", "changed", "pair", "at"]) (sc := defScope sOr) (by decide +kernel)) (fun _ _ _ _ _ => pg_name (i := 4) scOr.nd rfl (.inl rfl)) (fun _ _ _ _ _ => pts_nil)
          (fun _ _ _ _ _ => pe_callB (r := rMaxT K) (cr_maxT rfl hu) (by rfl) T.max (by decide +kernel) (pa_cons (pv 4) pa_nil)))
        (pa_cons (pe_lc (own := [("at", 5), ("pair", 4)]) (g := gTup K 2 (gCons (gName 5) (gCons (gName 4) gNil))) (tt := tYes) rfl scOr.nd (pi_list (pv 3))
          (blkOk_by (N := ["self", "other", "weekly", "changed", "pair", "at"]) (sc := defScope sOr) (by decide +kernel))
          (fun _ _ _ _ _ => pg_tup rfl (pgs_cons (pg_name (i := 5) scOr.nd rfl (.inl rfl)) (pgs_cons (pg_name (i := 4) scOr.nd rfl (.inl rfl)) pgs_nil))) (fun _ _ _ _ _ => pts_nil)
          (fun _ _ _ _ _ => pe_tup (pa_cons (pv 5) (pa_cons (pe_callB (r := rMaxT K) (cr_maxT rfl hu) (by rfl) T.max (by decide +kernel) (pa_cons (pv 4) pa_nil)) pa_nil)))) pa_nil))))), ?_⟩
    have l1 := hp.len1
    refine ⟨_, rfl, _, rfl, ⟨a, b, l, d, l', d', ps, qs, ms, ns, rfl, c1, c2, hp.len0, le, ku, fun len H1 r W L ws cs ks s1 hr1 hW wl pw hL cl ch asc mem kl => ?_⟩⟩
    replace kn := kn len
    replace k := k len
    refine ⟨r, _, rfl, .inl (.inl hr1), rfl, _, _, rfl, _, [], rfl, rfl, ?_⟩
    refine ⟨_, rfl, W, rfl, ⟨_, SqL.of hW⟩, fun D nD => lc_list (K := K) (a := W) (xs := ws.map V.ref) (fun i J => J D = some (.lst ((List.zipWith mxI (ps.take i) (qs.take i)).map V.int)) ∧ Same H1 J) ⟨upd_same, same_new nD⟩ (fun i J _ ⟨_, h⟩ => SqL.of (h _ _ hW)) ?_ ?_⟩
    · rintro i y J hi' ⟨hJ, sJ⟩
      have hi2 : i < ws.length := by
        have := (List.getElem?_eq_some_iff.mp hi').1
        simpa using this
      rw [List.getElem?_map, List.getElem?_eq_getElem hi2] at hi'
      obtain rfl := Option.some.inj hi'
      obtain ⟨x, y, ex, ey, ht⟩ := pw i _ (List.getElem?_eq_getElem hi2)
      have ip : i < ps.length := by omega
      have iq : i < qs.length := by omega
      rw [List.getElem?_map, List.getElem?_eq_getElem ip] at ex
      rw [List.getElem?_map, List.getElem?_eq_getElem iq] at ey
      obtain rfl := Option.some.inj ex
      obtain rfl := Option.some.inj ey
      have ez : List.zipWith mxI (ps.take (i + 1)) (qs.take (i + 1)) = List.zipWith mxI (ps.take i) (qs.take i) ++ [mxI ps[i] qs[i]] := by
        rw [List.take_add_one, List.take_add_one, List.getElem?_eq_getElem ip, List.getElem?_eq_getElem iq, List.zipWith_append (by rw [List.length_take, List.length_take, len])]
        rfl
      refine ⟨rfl, _, rfl, ws[i], ps[i], qs[i], rfl, SqT.of (sJ _ _ ht), ?_⟩
      refine ⟨_, hJ, ?_, ?_, fun c o e => ?_⟩
      · rw [List.length_map, List.length_zipWith, List.length_take, List.length_take]
        exact small1000 (by omega)
      · rw [upd_same, ez, List.map_append]
        rfl
      · rw [upd_ne (ne_of_none e nD)]
        exact sJ c o e
    rintro J ⟨hJ, sJ⟩
    rw [List.length_map, wl, List.take_length, len, List.take_length] at hJ
    have hL2 := sJ _ _ hL
    have ch2 := ch.same sJ
    refine ⟨_, rfl, L, rfl, ⟨_, SqL.of hL2⟩, fun G nG => lc_list (K := K) (a := L) (xs := cs.map V.ref) (fun i J2 => ∃ us : List Addr, J2 G = some (.lst (us.map V.ref)) ∧ Tups J2 us (joinM mxI ps qs ms ns (ks.take i)) ∧ Same J J2)
      ⟨[], upd_same, trivial, same_new nG⟩ (fun i J2 _ ⟨_, _, _, h⟩ => SqL.of (h _ _ hL2)) ?_ ?_⟩
    · rintro i y J2 hi' ⟨us, hU, hus, sU⟩
      have hi2 : i < cs.length := by
        have := (List.getElem?_eq_some_iff.mp hi').1
        simpa using this
      rw [List.getElem?_map, List.getElem?_eq_getElem hi2] at hi'
      obtain rfl := Option.some.inj hi'
      obtain ⟨k', u', ek, hc, hu'⟩ := (ch2.same sU) i _ (List.getElem?_eq_getElem hi2)
      have et : ks.take (i + 1) = ks.take i ++ [k'] := by rw [List.take_add_one, ek]; rfl
      refine ⟨_, _, rfl, .inl (.inl hc), rfl, _, _, rfl, _, [], rfl, rfl, rfl, ?_⟩
      refine ⟨_, rfl, _, rfl, u', speedAt ps ms k', speedAt qs ns k', rfl, SqT.of hu', (by show 2 ≤ sizeLine; decide), fun t nt => ?_⟩
      have gt := same_new (o := .tup [.int k', .int (mxI (speedAt ps ms k') (speedAt qs ns k'))]) nt
      have ul := hus.len
      unfold joinM at ul
      rw [List.length_map, List.length_take] at ul
      refine ⟨_, gt _ _ hU, by rw [List.length_map]; exact small1000 (by omega), us ++ [t], ?_, ?_, fun c o e => ?_⟩
      · rw [upd_same, List.map_append]
        rfl
      · rw [et]
        unfold joinM at hus ⊢
        rw [List.map_append]
        exact ((hus.same gt).snoc (m := (k', mxI (speedAt ps ms k') (speedAt qs ns k'))) upd_same).put (gt _ _ hU)
      · rw [upd_ne (ne_of_none e nG)]
        exact gt _ _ (sU c o e)
    · rintro J2 ⟨us, hU, hus, sU⟩
      rw [List.length_map, cl, List.take_length] at hus
      have fj : Fit (joinM mxI ps qs ms ns ks) := by
        refine ⟨?_, fun m hm => ?_, by unfold joinM; rw [List.length_map]; omega⟩
        · unfold joinM
          rw [List.pairwise_map]
          exact asc
        · obtain ⟨k', _, rfl⟩ := List.mem_map.mp hm
          have g1 := speed_lo hp fm k'
          have g2 := speed_lo hq fn k'
          show 0 ≤ mxI _ _ ∧ mxI _ _ ≤ 3
          unfold mxI
          split <;> omega
      refine fun y dy ny ndy _ => ?_
      have s3 : Same J2 (upd (upd J2 dy (.own y)) y (.ins C dy [])) := fun c o e => by
        rw [upd_ne (ne_of_none e ny), upd_ne (ne_of_none e ndy)]
        exact e
      have sAll := (s1.trans sJ).trans sU
      have jl := fj.len
      refine ⟨y, dy, D, G, _, us, _, rfl, upd_same, SqL.of (s3 _ _ (sU _ _ hJ)), SqL.of (s3 _ _ hU), hus.same s3, jl, ne_of_none (sU _ _ hJ) ny, ne_of_none hU ny, fun k' v hw dd H' s nd hd => ?_, fun pj _ H' l2 d2 cal nl nd keep => ⟨rfl, ?_⟩⟩
      · obtain ⟨rfl, rfl, z⟩ := join_wrong mxF hp hq len fj hw
        exact ((kn z).same (sAll.trans s3)) dd H' s nd hd
      · have s5 : Same J2 H' := fun c o e => keep c o (s3 _ _ e) (ne_of_none e ny)
        exact k pj H' y l2 d2 ks asc mem kl (sAll.trans s5) cal (sAll.free ny) (sAll.free (s3.free nl)) (sAll.free (s3.free nd))
theorem ok_andX {f fS fI C CW CS CN CC CU : Addr} {fd dS dI : FuncData} (F : Fun K "__and__" "Calendar.__and__" sAnd f fd) (T : Blt mg) (Z : Cal K mg C) (MK : Mk K C fI) (GI : FnOk P w K mg base (L2.CX P w) 5 fI dI ["self", "speeds", "changes"] (spInitX C CW CS CN CC K)) (bI : Binds K dI ["self", "speeds", "changes"] [])
    (Pr : AtX P w K mg base 4 "speed_pairs" ["one", "other"] (spPairsX C CU) fS dS) : FnOk P w K mg base (L2.CX P w) 7 f fd ["self", "other"] (spJoinX mnI C CU CN) := by
  refine F.okX scAnd (fun vs H Q E h => ?_) (fun cdv A outer s H vs Q E hr h => ?_)
  · obtain ⟨a, b, l, d, l', d', ps, qs, ms, ns, rfl, _⟩ := h
    rfl
  · obtain ⟨a, b, l, d, l', d', ps, qs, ms, ns, rfl, c1, c2, hp, hq, fm, fn, le, ku, kn, k⟩ := h
    have hr4 : Room 4 _ := hr.mono (by decide)
    have hu := hr.units
    refine ⟨_, pss_cons (ps_asg (pe_callS Pr.ok hr4 (by rfl) Pr.at_ Pr.kp Pr.bi (fun σ => passAt (W := fun cls d _ H => E cls d H) (takes_of rfl rfl rfl rfl) σ) (pa_cons (pv 0) (pa_cons (pv 1) pa_nil))) (pg_tup rfl (pgs_cons (pg_name (i := 2) scAnd.nd rfl (.inl rfl)) (pgs_cons (pg_name (i := 3) scAnd.nd rfl (.inl rfl)) pgs_nil))))
      (pss_one (ps_ret (pe_makeS MK GI hr (by rfl) Z.at_ bI .nil (fun σ => passAt (W := fun cls d _ H => E cls d H) (takes_of rfl rfl rfl rfl) σ) (pa_cons (pe_lc (own := [("pair", 4)]) (g := gName 4) (tt := tYes) rfl scAnd.nd (pi_list (pv 2))
          (blkOk_by (N := ["self", "other", "weekly", "changed", "pair", "at"]) (sc := defScope sAnd) (by decide +kernel)) (fun _ _ _ _ _ => pg_name (i := 4) scAnd.nd rfl (.inl rfl)) (fun _ _ _ _ _ => pts_nil)
          (fun _ _ _ _ _ => pe_callB (r := rMinT K) (cr_minT rfl hu) (by rfl) T.min (by decide +kernel) (pa_cons (pv 4) pa_nil)))
        (pa_cons (pe_lc (own := [("at", 5), ("pair", 4)]) (g := gTup K 2 (gCons (gName 5) (gCons (gName 4) gNil))) (tt := tYes) rfl scAnd.nd (pi_list (pv 3))
          (blkOk_by (N := ["self", "other", "weekly", "changed", "pair", "at"]) (sc := defScope sAnd) (by decide +kernel))
          (fun _ _ _ _ _ => pg_tup rfl (pgs_cons (pg_name (i := 5) scAnd.nd rfl (.inl rfl)) (pgs_cons (pg_name (i := 4) scAnd.nd rfl (.inl rfl)) pgs_nil))) (fun _ _ _ _ _ => pts_nil)
          (fun _ _ _ _ _ => pe_tup (pa_cons (pv 5) (pa_cons (pe_callB (r := rMinT K) (cr_minT rfl hu) (by rfl) T.min (by decide +kernel) (pa_cons (pv 4) pa_nil)) pa_nil)))) pa_nil))))), ?_⟩
    have l1 := hp.len1
    refine ⟨_, rfl, _, rfl, ⟨a, b, l, d, l', d', ps, qs, ms, ns, rfl, c1, c2, hp.len0, le, ku, fun len H1 r W L ws cs ks s1 hr1 hW wl pw hL cl ch asc mem kl => ?_⟩⟩
    replace kn := kn len
    replace k := k len
    refine ⟨r, _, rfl, .inl (.inl hr1), rfl, _, _, rfl, _, [], rfl, rfl, ?_⟩
    refine ⟨_, rfl, W, rfl, ⟨_, SqL.of hW⟩, fun D nD => lc_list (K := K) (a := W) (xs := ws.map V.ref) (fun i J => J D = some (.lst ((List.zipWith mnI (ps.take i) (qs.take i)).map V.int)) ∧ Same H1 J) ⟨upd_same, same_new nD⟩ (fun i J _ ⟨_, h⟩ => SqL.of (h _ _ hW)) ?_ ?_⟩
    · rintro i y J hi' ⟨hJ, sJ⟩
      have hi2 : i < ws.length := by
        have := (List.getElem?_eq_some_iff.mp hi').1
        simpa using this
      rw [List.getElem?_map, List.getElem?_eq_getElem hi2] at hi'
      obtain rfl := Option.some.inj hi'
      obtain ⟨x, y, ex, ey, ht⟩ := pw i _ (List.getElem?_eq_getElem hi2)
      have ip : i < ps.length := by omega
      have iq : i < qs.length := by omega
      rw [List.getElem?_map, List.getElem?_eq_getElem ip] at ex
      rw [List.getElem?_map, List.getElem?_eq_getElem iq] at ey
      obtain rfl := Option.some.inj ex
      obtain rfl := Option.some.inj ey
      have ez : List.zipWith mnI (ps.take (i + 1)) (qs.take (i + 1)) = List.zipWith mnI (ps.take i) (qs.take i) ++ [mnI ps[i] qs[i]] := by
        rw [List.take_add_one, List.take_add_one, List.getElem?_eq_getElem ip, List.getElem?_eq_getElem iq, List.zipWith_append (by rw [List.length_take, List.length_take, len])]
        rfl
      refine ⟨rfl, _, rfl, ws[i], ps[i], qs[i], rfl, SqT.of (sJ _ _ ht), ?_⟩
      refine ⟨_, hJ, ?_, ?_, fun c o e => ?_⟩
      · rw [List.length_map, List.length_zipWith, List.length_take, List.length_take]
        exact small1000 (by omega)
      · rw [upd_same, ez, List.map_append]
        rfl
      · rw [upd_ne (ne_of_none e nD)]
        exact sJ c o e
    rintro J ⟨hJ, sJ⟩
    rw [List.length_map, wl, List.take_length, len, List.take_length] at hJ
    have hL2 := sJ _ _ hL
    have ch2 := ch.same sJ
    refine ⟨_, rfl, L, rfl, ⟨_, SqL.of hL2⟩, fun G nG => lc_list (K := K) (a := L) (xs := cs.map V.ref) (fun i J2 => ∃ us : List Addr, J2 G = some (.lst (us.map V.ref)) ∧ Tups J2 us (joinM mnI ps qs ms ns (ks.take i)) ∧ Same J J2)
      ⟨[], upd_same, trivial, same_new nG⟩ (fun i J2 _ ⟨_, _, _, h⟩ => SqL.of (h _ _ hL2)) ?_ ?_⟩
    · rintro i y J2 hi' ⟨us, hU, hus, sU⟩
      have hi2 : i < cs.length := by
        have := (List.getElem?_eq_some_iff.mp hi').1
        simpa using this
      rw [List.getElem?_map, List.getElem?_eq_getElem hi2] at hi'
      obtain rfl := Option.some.inj hi'
      obtain ⟨k', u', ek, hc, hu'⟩ := (ch2.same sU) i _ (List.getElem?_eq_getElem hi2)
      have et : ks.take (i + 1) = ks.take i ++ [k'] := by rw [List.take_add_one, ek]; rfl
      refine ⟨_, _, rfl, .inl (.inl hc), rfl, _, _, rfl, _, [], rfl, rfl, rfl, ?_⟩
      refine ⟨_, rfl, _, rfl, u', speedAt ps ms k', speedAt qs ns k', rfl, SqT.of hu', (by show 2 ≤ sizeLine; decide), fun t nt => ?_⟩
      have gt := same_new (o := .tup [.int k', .int (mnI (speedAt ps ms k') (speedAt qs ns k'))]) nt
      have ul := hus.len
      unfold joinM at ul
      rw [List.length_map, List.length_take] at ul
      refine ⟨_, gt _ _ hU, by rw [List.length_map]; exact small1000 (by omega), us ++ [t], ?_, ?_, fun c o e => ?_⟩
      · rw [upd_same, List.map_append]
        rfl
      · rw [et]
        unfold joinM at hus ⊢
        rw [List.map_append]
        exact ((hus.same gt).snoc (m := (k', mnI (speedAt ps ms k') (speedAt qs ns k'))) upd_same).put (gt _ _ hU)
      · rw [upd_ne (ne_of_none e nG)]
        exact gt _ _ (sU c o e)
    · rintro J2 ⟨us, hU, hus, sU⟩
      rw [List.length_map, cl, List.take_length] at hus
      have fj : Fit (joinM mnI ps qs ms ns ks) := by
        refine ⟨?_, fun m hm => ?_, by unfold joinM; rw [List.length_map]; omega⟩
        · unfold joinM
          rw [List.pairwise_map]
          exact asc
        · obtain ⟨k', _, rfl⟩ := List.mem_map.mp hm
          have g1 := speed_lo hp fm k'
          have g2 := speed_lo hq fn k'
          show 0 ≤ mnI _ _ ∧ mnI _ _ ≤ 3
          unfold mnI
          split <;> omega
      refine fun y dy ny ndy _ => ?_
      have s3 : Same J2 (upd (upd J2 dy (.own y)) y (.ins C dy [])) := fun c o e => by
        rw [upd_ne (ne_of_none e ny), upd_ne (ne_of_none e ndy)]
        exact e
      have sAll := (s1.trans sJ).trans sU
      have jl := fj.len
      refine ⟨y, dy, D, G, _, us, _, rfl, upd_same, SqL.of (s3 _ _ (sU _ _ hJ)), SqL.of (s3 _ _ hU), hus.same s3, jl, ne_of_none (sU _ _ hJ) ny, ne_of_none hU ny, fun k' v hw dd H' s nd hd => ?_, fun pj _ H' l2 d2 cal nl nd keep => ⟨rfl, ?_⟩⟩
      · obtain ⟨rfl, rfl, z⟩ := join_wrong mnF hp hq len fj hw
        exact ((kn z).same (sAll.trans s3)) dd H' s nd hd
      · have s5 : Same J2 H' := fun c o e => keep c o (s3 _ _ e) (ne_of_none e ny)
        exact k pj H' y l2 d2 ks asc mem kl (sAll.trans s5) cal (sAll.free ny) (sAll.free (s3.free nl)) (sAll.free (s3.free nd))
end

/-! ### what the law tells -/
def mxn (sg : Int) : Int → Int → Int := if sg = 0 then mxI else mnI
def dUn (n m : Nat) : PyData := .list [.list [.bool true, .bool false, .bool false, .bool false, .bool false], .tuple [.int n, .int m]]
def dNe : PyData := .list [.list [.bool false, .bool true, .bool false, .bool false, .bool false], .int 0]
def dOk (J : List Int) (rs : List (Int × Int)) : PyData := .list [.int J.length, dInts J, dMarks rs, .bool true, .bool true, .int (speedAt J rs 3), .int (speedAt J rs (10 ^ 30))]
def ToldD (f : Int → Int → Int) (ps qs : List Int) (ms ns : List (Int × Int)) (D : PyData) : Prop :=
  (ps.length ≠ qs.length ∧ D = dUn ps.length qs.length) ∨ (ps.length = qs.length ∧ (∀ v ∈ joinP f ps qs, v = 0) ∧ D = dNe) ∨
  (ps.length = qs.length ∧ Paces (joinP f ps qs) ∧ ∃ ks : List Int, ks.Pairwise (· < ·) ∧ (∀ k, k ∈ ks ↔ k ∈ (ms ++ ns).map (·.1)) ∧ ks.length ≤ ms.length + ns.length ∧ D = dOk (joinP f ps qs) (realOf (joinP f ps qs) (joinM f ps qs ms ns ks)))
theorem asc_uniq : ∀ {xs ys : List Int}, xs.Pairwise (· < ·) → ys.Pairwise (· < ·) → (∀ k, k ∈ xs ↔ k ∈ ys) → xs = ys
  | [], [], _, _, _ => rfl
  | [], y :: _, _, _, h => absurd ((h y).mpr List.mem_cons_self) (by simp)
  | x :: _, [], _, _, h => absurd ((h x).mp List.mem_cons_self) (by simp)
  | x :: xs, y :: ys, a, b, h => by
    rw [List.pairwise_cons] at a b
    have e : x = y := by
      rcases List.mem_cons.mp ((h x).mp List.mem_cons_self) with e | m1
      · exact e
      · rcases List.mem_cons.mp ((h y).mpr List.mem_cons_self) with e | m2
        · exact e.symm
        · have := a.1 y m2
          have := b.1 x m1
          omega
    subst e
    have t : ∀ k, k ∈ xs ↔ k ∈ ys := fun k => by
      constructor
      · intro m
        rcases List.mem_cons.mp ((h k).mp (List.mem_cons_of_mem _ m)) with e | m'
        · subst e
          have := a.1 k m
          omega
        · exact m'
      · intro m
        rcases List.mem_cons.mp ((h k).mpr (List.mem_cons_of_mem _ m)) with e | m'
        · subst e
          have := b.1 k m
          omega
        · exact m'
    rw [asc_uniq a.2 b.2 t]
theorem Paces.some {J : List Int} (h : Paces J) (z : ∀ v ∈ J, v = 0) : False := by
  obtain ⟨v, hv, n⟩ := h.pos
  exact n (z v hv)
theorem ToldD.one {f : Int → Int → Int} {ps qs : List Int} {ms ns : List (Int × Int)} {D D' : PyData} (a : ToldD f ps qs ms ns D) (b : ToldD f ps qs ms ns D') : D = D' := by
  rcases a with ⟨n, rfl⟩ | ⟨e, z, rfl⟩ | ⟨e, p, ks, k1, k2, _, rfl⟩ <;> rcases b with ⟨n', rfl⟩ | ⟨e', z', rfl⟩ | ⟨e', p', ks', l1, l2, _, rfl⟩
  · rfl
  · exact absurd e' n
  · exact absurd e' n
  · exact absurd e n'
  · rfl
  · exact (p'.some z).elim
  · exact absurd e n'
  · exact (p.some z').elim
  · rw [asc_uniq k1 l1 fun k => (k2 k).trans (l2 k).symm]
structure Kit5 (K : PySem.W.Frag) (CW CS CN CC CU CD : Addr) : Prop where
  u : PySem.W.kitOne K (.ref CU) (.ref CU) = some true ∧ PySem.W.kitOne K (.ref CU) (.ref CN) = some false ∧ PySem.W.kitOne K (.ref CU) (.ref CW) = some false ∧ PySem.W.kitOne K (.ref CU) (.ref CS) = some false ∧ PySem.W.kitOne K (.ref CU) (.ref CC) = some false ∧ PySem.W.exmOne K (.ref CU) (.ref CD) = some true
  n : PySem.W.kitOne K (.ref CN) (.ref CU) = some false ∧ PySem.W.kitOne K (.ref CN) (.ref CN) = some true ∧ PySem.W.kitOne K (.ref CN) (.ref CW) = some false ∧ PySem.W.kitOne K (.ref CN) (.ref CS) = some false ∧ PySem.W.kitOne K (.ref CN) (.ref CC) = some false ∧ PySem.W.exmOne K (.ref CN) (.ref CD) = some true
def spTold5 (C : Addr) (K : PySem.W.Frag) : Sp := fun vs H Q _ => ∃ (a b l d l' d' : Addr) (ps qs : List Int) (ms ns : List (Int × Int)) (sg : Int), vs = [.ref a, .ref b, .int sg] ∧ CalAt C H a l d ps ms ∧ CalAt C H b l' d' qs ns ∧ Paces ps ∧ Paces qs ∧ Fit ms ∧ Fit ns ∧ ms.length + ns.length ≤ 60 ∧
  ∀ (D : PyData) (q : Addr) (H' : Hp), ToldD (mxn sg) ps qs ms ns D → Same H H' → Dp K H' (.ref q) D → Q (.ref q) H'
theorem real_asc {ps : List Int} {ms : List (Int × Int)} (asc : ms.Pairwise fun a b => a.1 < b.1) : (realOf ps ms).Pairwise fun a b => a.1 < b.1 := asc.filter _
theorem realFit {ps : List Int} {ms : List (Int × Int)} (h : Fit ms) : Fit (realOf ps ms) := ⟨real_asc h.asc, fun m hm => h.val m (List.mem_filter.mp hm).1, Nat.le_trans (List.length_filter_le _ _) h.len⟩
theorem real_again {ps : List Int} (ms : List (Int × Int)) : realOf ps (realOf ps ms) = realOf ps ms := by
  unfold realOf
  rw [List.filter_filter]
  congr 1
  funext m
  exact Bool.and_self _
/-- what a calendar tells of itself -/
def dTold (ps : List Int) (ms : List (Int × Int)) : PyData := .list [.int (ps.length : Nat), dInts ps, dMarks ms]
theorem of_dec {sg : Int} (c : decide (V.int sg = V.int 0) = true) : sg = 0 := by
  have := of_decide_eq_true c
  injection this
theorem not_dec {sg : Int} (c : ¬ decide (V.int sg = V.int 0) = true) : ¬ sg = 0 := fun e => c (decide_eq_true (by rw [e]))
section
variable {P : Program} {w : World} {K : PySem.W.Frag} {mg : Str → Option Value} {base : Heap}
theorem scTold : FnScope ["made", "twin", "sign", "caught", "both", "e", "again"] ["made", "twin", "sign"] (defScope sTold) := ⟨rfl, rfl, rfl, by decide +kernel, rfl, by decide +kernel, by decide +kernel⟩
theorem ok_told5 {f fI fE fR fN fG fQ C CW CS CN CC CU CD p1 g1 p2 g2 p3 g3 : Addr} {fd dI dR dN dG dQ d1 d2 d3 : FuncData} (F : Fun K "_law_told" "_law_told" sTold f fd) (T : Blt mg) (Z : Cal K mg C) (isi : mg "isinstance" = none) (IC : C8.InsC K C) (R : Errs K mg CW CS CN CC fE) (eU : ErrC K CU fE) (gU : mg "UnlikeWeeks" = some (.ref CU)) (KI : Kit5 K CW CS CN CC CU CD)
    (gD : mg "DueError" = some (.ref CD)) (MK : Mk K C fI) (GI : FnOk P w K mg base CX0 3 fI dI ["self", "speeds", "changes"] (spInit C K)) (bI : Binds K dI ["self", "speeds", "changes"] [])
    (oR : Own K C "__or__" fR) (first : PySem.W.selfFirst K C = true) (GR : FnOk P w K mg base (L2.CX P w) 7 fR dR ["self", "other"] (spJoinX mxI C CU CN)) (bR : Binds K dR ["self", "other"] [])
    (oN : Own K C "__and__" fN) (GN : FnOk P w K mg base (L2.CX P w) 7 fN dN ["self", "other"] (spJoinX mnI C CU CN)) (bN : Binds K dN ["self", "other"] [])
    (oG : Own K C "__getitem__" fG) (Gg : FnOk P w K mg base CX0 1 fG dG ["self", "at"] (spGet C)) (bG : Binds K dG ["self", "at"] [])
    (oQ : Own K C "__eq__" fQ) (GE : FnOk P w K mg base CX0 1 fQ dQ ["self", "other"] (spEqB C)) (bE : Binds K dQ ["self", "other"] [])
    (W1 : Pp P w K mg base C "week" (spWeek C) p1 g1 d1) (W2 : Pp P w K mg base C "speeds" (spSpeeds C) p2 g2 d2) (W3 : Pp P w K mg base C "changes" (spChanges C) p3 g3 d3) : FnOk P w K mg base CX0 8 f fd ["made", "twin", "sign"] (spTold5 C K) := by
  refine F.ok scTold (fun vs H Q E h => ?_) (fun cdv A outer s H vs Q E hr h => ?_)
  · obtain ⟨a, b, l, d, l', d', ps, qs, ms, ns, sg, rfl, _⟩ := h
    rfl
  · obtain ⟨a, b, l, d, l', d', ps, qs, ms, ns, sg, rfl, c1, c2, hp, hq, fm, fn, le, k⟩ := h
    have hr1 : Room 1 _ := hr.mono (by decide)
    have hr2 : Room 2 _ := hr.mono (by decide)
    have hr4 : Room 4 _ := hr.mono (by decide)
    refine ⟨_, pss_cons (ps_set (i := 3) scTold.nd rfl (.inl rfl) pe_non)
      (pss_cons (ps_set (i := 4) scTold.nd rfl (.inl rfl) pe_non)
      (pss_cons (ps_try_as (i := 5) (Wout := fun _ _ _ _ => False) rfl rfl scTold.nd rfl rfl ⟨rfl, by decide, .inl gD⟩ takes0
        (fun W pn xe tk _ => pss_one (ps_if (pt_cmpR op_eq (pv 2) pe_int (nomark _))
          (pss_one (ps_set (i := 4) scTold.nd rfl (.inl rfl) (pe_binX (op := .BitOr) oR first GR hr bR (fun σ => passAt tk σ) (pv 0) (pv 1))))
          (pss_one (ps_set (i := 4) scTold.nd rfl (.inl rfl) (pe_binX (op := .BitAnd) oN first GN hr bN (fun σ => passAt tk σ) (pv 0) (pv 1))))))
        (fun a oe cls d pn hz hf => pss_one (ps_set (i := 3) scTold.nd rfl (.inl rfl) (pe_lst (pa_cons (pe_lst (pa_cons (pe_callB (call_isX hz hf) (by rfl) isi (by decide +kernel) (pa_cons (pv 5) (pa_cons (C8.pe_gc (v := .ref CU) (by rfl) ⟨_, gU, rfl⟩) pa_nil)))
            (pa_cons (pe_callB (call_isX hz hf) (by rfl) isi (by decide +kernel) (pa_cons (pv 5) (pa_cons (C8.pe_gc (v := .ref CN) (by rfl) ⟨_, R.gN, rfl⟩) pa_nil)))
            (pa_cons (pe_callB (call_isX hz hf) (by rfl) isi (by decide +kernel) (pa_cons (pv 5) (pa_cons (C8.pe_gc (v := .ref CW) (by rfl) ⟨_, R.gW, rfl⟩) pa_nil)))
            (pa_cons (pe_callB (call_isX hz hf) (by rfl) isi (by decide +kernel) (pa_cons (pv 5) (pa_cons (C8.pe_gc (v := .ref CS) (by rfl) ⟨_, R.gS, rfl⟩) pa_nil)))
            (pa_cons (pe_callB (call_isX hz hf) (by rfl) isi (by decide +kernel) (pa_cons (pv 5) (pa_cons (C8.pe_gc (v := .ref CC) (by rfl) ⟨_, R.gC, rfl⟩) pa_nil)))
            pa_nil))))))
          (pa_cons (pe_val hz hf (pv 5)) pa_nil))))))
      (pss_cons (ps_if (pt_cmpR op_notN (pv 3) pe_non (nomark _))
        (pss_one (ps_ret (pv 3)))
        pss_nil)
      (pss_cons (ps_set (i := 6) scTold.nd rfl (.inl rfl) (pe_cmpR (op_eqOwn GE oQ.at_ oQ.fn bE hr1) (pe_make MK GI hr4 (by rfl) Z.at_ bI .nil pass0 (pa_cons (pe_prop (pv 4) Z.cl W2.of W2.ok hr2 W2.bi .nil pass0 rfl) (pa_cons (pe_prop (pv 4) Z.cl W3.of W3.ok hr2 W3.bi .nil pass0 rfl) pa_nil))) (pv 4) (nomark _)))
      (pss_one (ps_ret (pe_lst (pa_cons (pe_prop (pv 4) Z.cl W1.of W1.ok hr2 W1.bi .nil pass0 rfl) (pa_cons (pe_prop (pv 4) Z.cl W2.of W2.ok hr2 W2.bi .nil pass0 rfl) (pa_cons (pe_prop (pv 4) Z.cl W3.of W3.ok hr2 W3.bi .nil pass0 rfl) (pa_cons (pe_callB (C8.call_isC IC) (by rfl) isi (by decide +kernel) (pa_cons (pv 4) (pa_cons (C8.pe_gc (v := .ref C) (by rfl) ⟨_, Z.at_, rfl⟩) pa_nil))) (pa_cons (pv 6)
        (pa_cons (ix_own oG Gg hr2 bG (pv 4) pe_int) (pa_cons (ix_own oG Gg hr2 bG (pv 4) (pe_op op_pow pe_int pe_int)) pa_nil)))))))))))))), ?_⟩
    obtain ⟨dx, hx⟩ := c1.ob
    obtain ⟨dy, hy⟩ := c2.ob
    refine ⟨_, rfl, rfl, _, rfl, ite2 (fun c => ?_) (fun c => ?_)⟩
    · have ef : mxn sg = mxI := if_pos (of_dec c)
      rw [ef] at k
      refine ⟨_, rfl, _, rfl, a, b, dx, dy, _, _, rfl, rfl, hx, hy, ⟨a, b, l, d, l', d', ps, qs, ms, ns, rfl, c1, c2, hp, hq, fm, fn, le, fun ne t dd H' s nd hd ht => ?_, fun len z dd H' s nd hd => ?_, fun len pj H1 y l2 d2 ks asc mem kl s1 cal ny nl nd => ⟨⟨_, rfl⟩, ?_⟩⟩⟩
      · obtain ⟨e0, e1, e2, e3, e4, ex⟩ := KI.u
        refine ⟨true, ex, fun _ ea na => ?_, fun z => Bool.noConfusion z⟩
        have held : HeldE K (.ref CU) (some dd) (.ref t) CU fE H' := ⟨rfl, eU, dd, rfl, hd⟩
        refine ⟨_, rfl, _, fE, _, .ref CU, _, _, rfl, held, fun u h => h, e0, _, rfl, _, fE, _, .ref CN, _, _, rfl, held, fun u h => h, e1, _, rfl, _, fE, _, .ref CW, _, _, rfl, held, fun u h => h, e2, _, rfl, _, fE, _, .ref CS, _, _, rfl, held, fun u h => h, e3, _, rfl, _, fE, _, .ref CC, _, _, rfl, held, fun u h => h, e4, ?_⟩
        refine ⟨(by show 5 ≤ sizeLine; decide), fun g1 m1 => ?_⟩
        have t1 := same_new (o := .lst [.bl true, .bl false, .bl false, .bl false, .bl false]) m1
        have held2 : HeldE K (.ref CU) (some dd) (.ref t) CU fE (upd H' g1 (.lst [.bl true, .bl false, .bl false, .bl false, .bl false])) := ⟨rfl, eU, dd, rfl, t1 _ _ hd⟩
        refine ⟨_, rfl, rfl, _, fE, _, held2, (by show 2 ≤ sizeLine; decide), fun g2 m2 => ?_⟩
        have t2 := same_new (o := .lst [.ref g1, .ref t]) m2
        refine ⟨_, rfl, rfl, _, rfl, ?_⟩
        exact ⟨_, rfl, k _ g2 _ (.inl ⟨ne, rfl⟩) (s.trans (t1.trans t2)) (.lst (SqL.of upd_same) (.cons (.lst (SqL.of (t2 _ _ upd_same)) (.cons (.bl _) (.cons (.bl _) (.cons (.bl _) (.cons (.bl _) (.cons (.bl _) .nil)))))) (.cons (.tup (SqT.of (t2 _ _ (t1 _ _ ht))) (.cons (.int _) (.cons (.int _) .nil))) .nil)))⟩
      · obtain ⟨e0, e1, e2, e3, e4, ex⟩ := KI.n
        refine ⟨true, ex, fun _ ea na => ?_, fun z => Bool.noConfusion z⟩
        have held : HeldE K (.ref CN) (some dd) (.int 0) CN fE H' := ⟨rfl, R.eN, dd, rfl, hd⟩
        refine ⟨_, rfl, _, fE, _, .ref CU, _, _, rfl, held, fun u h => h, e0, _, rfl, _, fE, _, .ref CN, _, _, rfl, held, fun u h => h, e1, _, rfl, _, fE, _, .ref CW, _, _, rfl, held, fun u h => h, e2, _, rfl, _, fE, _, .ref CS, _, _, rfl, held, fun u h => h, e3, _, rfl, _, fE, _, .ref CC, _, _, rfl, held, fun u h => h, e4, ?_⟩
        refine ⟨(by show 5 ≤ sizeLine; decide), fun g1 m1 => ?_⟩
        have t1 := same_new (o := .lst [.bl false, .bl true, .bl false, .bl false, .bl false]) m1
        have held2 : HeldE K (.ref CN) (some dd) (.int 0) CN fE (upd H' g1 (.lst [.bl false, .bl true, .bl false, .bl false, .bl false])) := ⟨rfl, R.eN, dd, rfl, t1 _ _ hd⟩
        refine ⟨_, rfl, rfl, _, fE, _, held2, (by show 2 ≤ sizeLine; decide), fun g2 m2 => ?_⟩
        have t2 := same_new (o := .lst [.ref g1, .int 0]) m2
        refine ⟨_, rfl, rfl, _, rfl, ?_⟩
        exact ⟨_, rfl, k _ g2 _ (.inr (.inl ⟨len, z, rfl⟩)) (s.trans (t1.trans t2)) (.lst (SqL.of upd_same) (.cons (.lst (SqL.of (t2 _ _ upd_same)) (.cons (.bl _) (.cons (.bl _) (.cons (.bl _) (.cons (.bl _) (.cons (.bl _) .nil)))))) (.cons (.int _) .nil)))⟩
      · obtain ⟨ox, hb⟩ := cal.ob
        have fj : Fit (joinM mxI ps qs ms ns ks) := joinMF_fit mxF hp hq fm fn asc (by omega)
        have fr : Fit (realOf (joinP mxI ps qs) (joinM mxI ps qs ms ns ks)) := realFit fj
        have er := real_again (ps := joinP mxI ps qs) (joinM mxI ps qs ms ns ks)
        have told : ∀ (q : Addr) (H' : Hp), Same H H' → Dp K H' (.ref q) (dOk (joinP mxI ps qs) (realOf (joinP mxI ps qs) (joinM mxI ps qs ms ns ks))) → Q (.ref q) H' := fun q H' s dp => k _ q H' (.inr (.inr ⟨len, pj, ks, asc, mem, kl, rfl⟩)) s dp
        clear k
        generalize realOf (joinP mxI ps qs) (joinM mxI ps qs ms ns ks) = rs at cal fr told er
        generalize joinP mxI ps qs = J at cal pj told er
        refine ⟨_, rfl, rfl, _, rfl, ?_⟩
        -- again
        refine ⟨_, rfl, y, ox, _, rfl, hb, ⟨y, l2, d2, J, rs, rfl, cal, fun g1 m1 => ?_⟩⟩
        have t1 := same_new (o := .lst (J.map V.int)) m1
        refine ⟨_, rfl, y, ox, _, rfl, t1 _ _ hb, ⟨y, l2, d2, J, rs, rfl, cal.same t1, fun H3 g2 us t2 m2 _ _ h2 up => ?_⟩⟩
        have t12 := t1.trans t2
        refine fun z dz nz ndz _ => made_ok rfl nz ndz (t2 _ _ upd_same) h2 up pj fr fun H4 l4 d4 cal4 nl4 nd4 s4 => ⟨rfl, ?_⟩
        have t14 := t12.trans s4
        obtain ⟨oz, hz⟩ := cal4.ob
        rw [er] at cal4
        refine ⟨_, rfl, z, y, oz, ox, _, _, rfl, rfl, hz, t14 _ _ hb, ⟨z, y, l4, d4, l2, d2, J, J, rs, rs, rfl, cal4, cal.same t14, fr.asc, fr.asc, ⟨_, rfl⟩, ?_⟩⟩
        rw [decide_eq_true (show J = J ∧ rs = rs from ⟨rfl, rfl⟩)]
        have cB := cal.same t14
        -- the list
        refine ⟨_, rfl, y, ox, _, rfl, t14 _ _ hb, ⟨y, l2, d2, J, rs, rfl, cB, ?_⟩⟩
        refine ⟨_, rfl, y, ox, _, rfl, t14 _ _ hb, ⟨y, l2, d2, J, rs, rfl, cB, fun g3 m3 => ?_⟩⟩
        have t3 := same_new (o := .lst (J.map V.int)) m3
        refine ⟨_, rfl, y, ox, _, rfl, t3 _ _ (t14 _ _ hb), ⟨y, l2, d2, J, rs, rfl, cB.same t3, fun H5 g4 us2 t4 m4 _ _ h4 up4 => ?_⟩⟩
        have cC := (cB.same t3).same t4
        obtain ⟨oc, hc⟩ := cC.ob
        have l0 := pj.len0
        refine ⟨_, rfl, y, oc, _, rfl, hc, _, rfl, _, rfl, y, oc, _, rfl, hc, ⟨y, l2, d2, J, rs, 3, rfl, cC, l0, ?_⟩⟩
        refine ⟨_, rfl, _, _, rfl, rfl, ⟨by decide, by decide, by decide⟩, y, oc, _, rfl, hc, ⟨y, l2, d2, J, rs, 10 ^ 30, rfl, cC, l0, (by show 7 ≤ sizeLine; decide), fun g5 m5 => ?_⟩⟩
        have t5 := same_new (o := .lst [.int J.length, .ref g3, .ref g4, .bl true, .bl true, .int (speedAt J rs 3), .int (speedAt J rs (10 ^ 30))]) m5
        exact told g5 _ (((s1.trans t14).trans t3).trans (t4.trans t5)) (.lst (SqL.of upd_same) (.cons (.int _) (.cons (dp_ints (SqL.of (t5 _ _ (t4 _ _ upd_same)))) (.cons (dp_marks (SqL.of (t5 _ _ h4)) (up4.same t5)) (.cons (.bl _) (.cons (.bl _) (.cons (.int _) (.cons (.int _) .nil))))))))
    · have ef : mxn sg = mnI := if_neg (not_dec c)
      rw [ef] at k
      refine ⟨_, rfl, _, rfl, a, b, dx, dy, _, _, rfl, rfl, hx, hy, ⟨a, b, l, d, l', d', ps, qs, ms, ns, rfl, c1, c2, hp, hq, fm, fn, le, fun ne t dd H' s nd hd ht => ?_, fun len z dd H' s nd hd => ?_, fun len pj H1 y l2 d2 ks asc mem kl s1 cal ny nl nd => ⟨⟨_, rfl⟩, ?_⟩⟩⟩
      · obtain ⟨e0, e1, e2, e3, e4, ex⟩ := KI.u
        refine ⟨true, ex, fun _ ea na => ?_, fun z => Bool.noConfusion z⟩
        have held : HeldE K (.ref CU) (some dd) (.ref t) CU fE H' := ⟨rfl, eU, dd, rfl, hd⟩
        refine ⟨_, rfl, _, fE, _, .ref CU, _, _, rfl, held, fun u h => h, e0, _, rfl, _, fE, _, .ref CN, _, _, rfl, held, fun u h => h, e1, _, rfl, _, fE, _, .ref CW, _, _, rfl, held, fun u h => h, e2, _, rfl, _, fE, _, .ref CS, _, _, rfl, held, fun u h => h, e3, _, rfl, _, fE, _, .ref CC, _, _, rfl, held, fun u h => h, e4, ?_⟩
        refine ⟨(by show 5 ≤ sizeLine; decide), fun g1 m1 => ?_⟩
        have t1 := same_new (o := .lst [.bl true, .bl false, .bl false, .bl false, .bl false]) m1
        have held2 : HeldE K (.ref CU) (some dd) (.ref t) CU fE (upd H' g1 (.lst [.bl true, .bl false, .bl false, .bl false, .bl false])) := ⟨rfl, eU, dd, rfl, t1 _ _ hd⟩
        refine ⟨_, rfl, rfl, _, fE, _, held2, (by show 2 ≤ sizeLine; decide), fun g2 m2 => ?_⟩
        have t2 := same_new (o := .lst [.ref g1, .ref t]) m2
        refine ⟨_, rfl, rfl, _, rfl, ?_⟩
        exact ⟨_, rfl, k _ g2 _ (.inl ⟨ne, rfl⟩) (s.trans (t1.trans t2)) (.lst (SqL.of upd_same) (.cons (.lst (SqL.of (t2 _ _ upd_same)) (.cons (.bl _) (.cons (.bl _) (.cons (.bl _) (.cons (.bl _) (.cons (.bl _) .nil)))))) (.cons (.tup (SqT.of (t2 _ _ (t1 _ _ ht))) (.cons (.int _) (.cons (.int _) .nil))) .nil)))⟩
      · obtain ⟨e0, e1, e2, e3, e4, ex⟩ := KI.n
        refine ⟨true, ex, fun _ ea na => ?_, fun z => Bool.noConfusion z⟩
        have held : HeldE K (.ref CN) (some dd) (.int 0) CN fE H' := ⟨rfl, R.eN, dd, rfl, hd⟩
        refine ⟨_, rfl, _, fE, _, .ref CU, _, _, rfl, held, fun u h => h, e0, _, rfl, _, fE, _, .ref CN, _, _, rfl, held, fun u h => h, e1, _, rfl, _, fE, _, .ref CW, _, _, rfl, held, fun u h => h, e2, _, rfl, _, fE, _, .ref CS, _, _, rfl, held, fun u h => h, e3, _, rfl, _, fE, _, .ref CC, _, _, rfl, held, fun u h => h, e4, ?_⟩
        refine ⟨(by show 5 ≤ sizeLine; decide), fun g1 m1 => ?_⟩
        have t1 := same_new (o := .lst [.bl false, .bl true, .bl false, .bl false, .bl false]) m1
        have held2 : HeldE K (.ref CN) (some dd) (.int 0) CN fE (upd H' g1 (.lst [.bl false, .bl true, .bl false, .bl false, .bl false])) := ⟨rfl, R.eN, dd, rfl, t1 _ _ hd⟩
        refine ⟨_, rfl, rfl, _, fE, _, held2, (by show 2 ≤ sizeLine; decide), fun g2 m2 => ?_⟩
        have t2 := same_new (o := .lst [.ref g1, .int 0]) m2
        refine ⟨_, rfl, rfl, _, rfl, ?_⟩
        exact ⟨_, rfl, k _ g2 _ (.inr (.inl ⟨len, z, rfl⟩)) (s.trans (t1.trans t2)) (.lst (SqL.of upd_same) (.cons (.lst (SqL.of (t2 _ _ upd_same)) (.cons (.bl _) (.cons (.bl _) (.cons (.bl _) (.cons (.bl _) (.cons (.bl _) .nil)))))) (.cons (.int _) .nil)))⟩
      · obtain ⟨ox, hb⟩ := cal.ob
        have fj : Fit (joinM mnI ps qs ms ns ks) := joinMF_fit mnF hp hq fm fn asc (by omega)
        have fr : Fit (realOf (joinP mnI ps qs) (joinM mnI ps qs ms ns ks)) := realFit fj
        have er := real_again (ps := joinP mnI ps qs) (joinM mnI ps qs ms ns ks)
        have told : ∀ (q : Addr) (H' : Hp), Same H H' → Dp K H' (.ref q) (dOk (joinP mnI ps qs) (realOf (joinP mnI ps qs) (joinM mnI ps qs ms ns ks))) → Q (.ref q) H' := fun q H' s dp => k _ q H' (.inr (.inr ⟨len, pj, ks, asc, mem, kl, rfl⟩)) s dp
        clear k
        generalize realOf (joinP mnI ps qs) (joinM mnI ps qs ms ns ks) = rs at cal fr told er
        generalize joinP mnI ps qs = J at cal pj told er
        refine ⟨_, rfl, rfl, _, rfl, ?_⟩
        -- again
        refine ⟨_, rfl, y, ox, _, rfl, hb, ⟨y, l2, d2, J, rs, rfl, cal, fun g1 m1 => ?_⟩⟩
        have t1 := same_new (o := .lst (J.map V.int)) m1
        refine ⟨_, rfl, y, ox, _, rfl, t1 _ _ hb, ⟨y, l2, d2, J, rs, rfl, cal.same t1, fun H3 g2 us t2 m2 _ _ h2 up => ?_⟩⟩
        have t12 := t1.trans t2
        refine fun z dz nz ndz _ => made_ok rfl nz ndz (t2 _ _ upd_same) h2 up pj fr fun H4 l4 d4 cal4 nl4 nd4 s4 => ⟨rfl, ?_⟩
        have t14 := t12.trans s4
        obtain ⟨oz, hz⟩ := cal4.ob
        rw [er] at cal4
        refine ⟨_, rfl, z, y, oz, ox, _, _, rfl, rfl, hz, t14 _ _ hb, ⟨z, y, l4, d4, l2, d2, J, J, rs, rs, rfl, cal4, cal.same t14, fr.asc, fr.asc, ⟨_, rfl⟩, ?_⟩⟩
        rw [decide_eq_true (show J = J ∧ rs = rs from ⟨rfl, rfl⟩)]
        have cB := cal.same t14
        -- the list
        refine ⟨_, rfl, y, ox, _, rfl, t14 _ _ hb, ⟨y, l2, d2, J, rs, rfl, cB, ?_⟩⟩
        refine ⟨_, rfl, y, ox, _, rfl, t14 _ _ hb, ⟨y, l2, d2, J, rs, rfl, cB, fun g3 m3 => ?_⟩⟩
        have t3 := same_new (o := .lst (J.map V.int)) m3
        refine ⟨_, rfl, y, ox, _, rfl, t3 _ _ (t14 _ _ hb), ⟨y, l2, d2, J, rs, rfl, cB.same t3, fun H5 g4 us2 t4 m4 _ _ h4 up4 => ?_⟩⟩
        have cC := (cB.same t3).same t4
        obtain ⟨oc, hc⟩ := cC.ob
        have l0 := pj.len0
        refine ⟨_, rfl, y, oc, _, rfl, hc, _, rfl, _, rfl, y, oc, _, rfl, hc, ⟨y, l2, d2, J, rs, 3, rfl, cC, l0, ?_⟩⟩
        refine ⟨_, rfl, _, _, rfl, rfl, ⟨by decide, by decide, by decide⟩, y, oc, _, rfl, hc, ⟨y, l2, d2, J, rs, 10 ^ 30, rfl, cC, l0, (by show 7 ≤ sizeLine; decide), fun g5 m5 => ?_⟩⟩
        have t5 := same_new (o := .lst [.int J.length, .ref g3, .ref g4, .bl true, .bl true, .int (speedAt J rs 3), .int (speedAt J rs (10 ^ 30))]) m5
        exact told g5 _ (((s1.trans t14).trans t3).trans (t4.trans t5)) (.lst (SqL.of upd_same) (.cons (.int _) (.cons (dp_ints (SqL.of (t5 _ _ (t4 _ _ upd_same)))) (.cons (dp_marks (SqL.of (t5 _ _ h4)) (up4.same t5)) (.cons (.bl _) (.cons (.bl _) (.cons (.int _) (.cons (.int _) .nil))))))))
end

/-! ### set(xs) of a list of ints -/
section
variable {P : Program} {w : World} {A : Around} {E : Value → Shared → Prop} {s : Shared}
set_option maxHeartbeats 3200000 in
theorem call_setL {l : Addr} {items : Array Value} (ks : List Int) {Q : Value → Shared → Prop} (noErr : A.handled = none) (at_ : s.heap.IsList l items) (iA : IntsAre items.toList ks) (few : ks.length + 1 < scanBound)
    (h : ∀ (h' : Heap) (tk c : Nat), SetR w h' s.heap.objs.size (fun j => decide (j ∈ ks)) c → c ≤ ks.length → (∀ b o, s.heap.get? b = some o → h'.get? b = some o) → Q (.ref s.heap.objs.size) { s with heap := h', toks := tk }) :
    wpAny (model P w) A (call (.type "set") [.ref l]) Q E s := by
  have sz : items.size = ks.length := Array.length_toList.symm.trans (IntsAre.length iA)
  obtain ⟨c, tl, mro⟩ := F.called_set.mro
  have mk1 := F.called_set.made
  have mk2 := F.called_set.sub
  refine wpAny_call (codeAny_of_tree ?_)
  show wpAny _ _ (callAny (.type "set") _) _ _ _
  refine wpAny_pure ⟨Code.quiet_builtin _ (by decide +kernel), codeAny_builtin F.entry_type_call ?_⟩
  rw [Around.under_plain (weight_type_call_type "set" [.ref l] []) rfl]
  have mk3 := F.called_set.notType
  have mk4 := F.called_set.canCreate
  have mk5 := F.typeCall_set_1 (.ref l)
  repeat (any_goals (first | assumption | wp_step))
  refine codeAny_mono (code_set_led1 (.ref l) (E := E) (Q₁ := fun obj sa => obj = .ref s.heap.objs.size ∧ sa = { s with heap := s.heap.push { cls := .type "set", dict := none, data := .set #[] 0 (.fresh 0 0 (!w.params.followText "set-order")) } }) ⟨rfl, rfl⟩) fun r sa made => ?_
  rcases r with e | fl
  · exact made
  rcases fl with _ | _ | _ | obj
  iterate 3 exact made.elim
  obtain ⟨rfl, rfl⟩ := made
  generalize grown : s.heap.push { cls := .type "set", dict := none, data := .set #[] 0 (.fresh 0 0 (!w.params.followText "set-order")) } = g0
  have here : g0.get? s.heap.objs.size = some { cls := .type "set", dict := none, data := .set #[] 0 (.fresh 0 0 (!w.params.followText "set-order")) } := by rw [← grown]; exact Heap.get?_push_size _ rfl
  have kept0 : ∀ b o, s.heap.get? b = some o → g0.get? b = some o := fun b o e => by rw [← grown]; exact Heap.get?_push_of_some _ e
  have total : g0.objs.size = s.heap.objs.size + 1 := by rw [← grown]; exact Heap.size_push ..
  have isSet : Shared.TypeIs { s with heap := g0 } (.ref s.heap.objs.size) "set" := ⟨_, here, rfl⟩
  have look := F.called_set.init.lookup
  have bnd := F.called_set.init.bind (.ref s.heap.objs.size)
  repeat (any_goals (first | assumption | wp_step))
  refine codeAny_mono (codeAny_call_builtin (R := wants (fun r sb => r = .none ∧ ∃ h' tk c, sb = { s with heap := h', toks := tk } ∧ SetR w h' s.heap.objs.size (fun j => decide (j ∈ ks)) c ∧ c ≤ ks.length ∧ ∀ b o, s.heap.get? b = some o → h'.get? b = some o) E)
    F.called_set.init.plain F.entry_set_init (check_set_init_1 isSet ?_)) fun r sb done => ?_
  · obtain ⟨ol, eol, cl, nl, dl⟩ := at_
    obtain ⟨oc, od, odt, osl⟩ := ol
    simp only at cl dl
    subst cl
    subst dl
    have eol0 : g0.get? l = some { cls := .type "list", dict := od, data := .seq items nl, slots := osl } := kept0 _ _ eol
    have sub1 := F.sub_list_set
    have sub2 := F.sub_list_frozenset
    have noDict : (Value.type "list" == Value.type "dict") = false := by decide
    have list0 : g0.IsList l items := ⟨_, eol0, rfl, nl, rfl⟩
    unfold Builtin.«set.__init__» noKeywords Builtin.Frozenset.updateFrom
    generalize iterIs : pyIter = PI
    wp_walk
    subst iterIs
    refine wpAny_pyIter_list list0 ?_
    refine wpAny_bind (wpAny_runValue ?_)
    have lS : l < s.heap.objs.size := Heap.lt_size eol
    have noErr3 : A.in1.in1.in1.handled = none := by simp [noErr]
    have ne1 : l ≠ g0.objs.size := by
      rw [total]
      exact Nat.ne_of_lt (Nat.lt_succ_of_lt lS)
    have outside : s.heap.objs.size ∉ [g0.objs.size, l] := by
      rw [total]
      simp only [List.mem_cons, List.not_mem_nil, or_false, not_or]
      exact ⟨Nat.ne_of_lt (Nat.lt_succ_self _), Nat.ne_of_gt lS⟩
    refine set_update_ints ((Walks.list noErr3 _ l ne1 items).toS) s.heap.objs.size outside ks sz few (fun i v e => ?_) (items.size - 0) 0 _ (by omega) (Nat.zero_le _) ⟨⟨_, Heap.get?_push_size _ rfl, rfl, rfl⟩, list0.push _⟩
      ⟨0, Nat.le_refl 0, setR_new_at (Heap.get?_push_of_some _ here)⟩ (fun s' c' mv le isR => ?_)
    · have lt : i < ks.length := by
        rw [← sz]
        exact (Array.getElem?_eq_some_iff.mp e).1
      obtain ⟨t, et⟩ := PyProof.Rows.IntsAre.int_at iA i v (by rw [Array.getElem?_toList]; exact e)
      refine ⟨ks[i], t, List.getElem?_eq_getElem lt, ?_⟩
      rw [et, List.getD_eq_getElem?_getD, List.getElem?_eq_getElem lt] <;> rfl
    · obtain ⟨h', gn, dr, tk', oss⟩ := s'
      obtain rfl : gn = s.gens := mv.gens
      obtain rfl : dr = s.drawn := mv.drawn
      obtain rfl : oss = s.os := mv.os
      show wpAny _ _ _ _ _ _
      refine wpAny_pure ?_
      show wpAny _ _ (ret Value.none) _ _ _
      rw [sz] at le
      refine wpAny_pure ⟨rfl, h', tk', c', rfl, isR, le, fun b o e => mv.heap b o ?_ (Heap.get?_push_of_some _ (kept0 b o e))⟩
      have lt := Heap.lt_size e
      simp only [List.mem_cons, List.not_mem_nil, or_false, not_or]
      exact ⟨Nat.ne_of_lt lt, by rw [total]; exact Nat.ne_of_lt (Nat.lt_succ_of_lt lt)⟩
  · rcases r with e | fl
    · exact done
    rcases fl with _ | _ | _ | v
    iterate 3 exact done.elim
    obtain ⟨rfl, h', tk, c', rfl, isR, le, kp⟩ := done
    repeat (any_goals (first | assumption | wp_step))
    exact h _ _ _ isR le kp
end
section
variable {X : Cx}
def rSetL (X : Cx) : List V → Hp → VK → Prop := fun xs H Q => ∃ (l : Addr) (ks : List Int), xs = [.ref l] ∧ SqL X.K H l (ks.map V.int) ∧ ks.length + 1 < scanBound ∧
  ∀ (a : Addr) (n : Nat), H a = none → n ≤ ks.length → Q (.ref a) (upd H a (SetO X.w a (fun j => decide (j ∈ ks)) n))
theorem cr_setL (calm : X.calm = true) : CallR X (.type "set") (rSetL X) := by
  intro pins s σ H xs us Q I r h
  obtain ⟨l, ks, rfl, hs, few, q⟩ := h
  obtain ⟨its, rv, hl, _⟩ := I.list hs
  rw [Vals.ref1 r]
  refine call_setL ks (I.ok.hd calm) hl.isList rv.ints few fun h' tk c isR le kp => ?_
  exact ⟨.ref s.heap.objs.size, _, I.laid (t' := tk) kp (Nat.le_refl _) (setO_new isR), rfl, q _ c (I.hok.fresh (Nat.le_refl _)) le⟩
end

/-! ### what is due -/
structure Blt7 (mg : Str → Option Value) : Prop where
  set : mg "set" = none
theorem mxnF (sg i j : Int) (a : 0 ≤ i) (b : i ≤ 3) (c : 0 ≤ j) (d : j ≤ 3) : 0 ≤ mxn sg i j ∧ mxn sg i j ≤ 3 := by
  unfold mxn
  split
  · exact mxF i j a b c d
  · exact mnF i j a b c d
def spJ5 : Sp := fun vs H Q _ => ∃ (i j sg : Int), vs = [.int i, .int j, .int sg] ∧ Q (.int (mxn sg i j)) H
def spDue5 (K : PySem.W.Frag) : Sp := fun vs H Q _ => ∃ (a b c d : Addr) (ps qs : List Int) (ts us : List Addr) (ms ns : List (Int × Int)) (sg : Int), vs = [.ref a, .ref b, .ref c, .ref d, .int sg] ∧ H a = some (.lst (ps.map V.int)) ∧ H b = some (.lst (ts.map V.ref)) ∧ Tups H ts ms ∧ H c = some (.lst (qs.map V.int)) ∧ H d = some (.lst (us.map V.ref)) ∧ Tups H us ns ∧
  Paces ps ∧ Paces qs ∧ ms.length + ns.length ≤ 60 ∧ ∀ (D : PyData) (q : Addr) (H' : Hp), ToldD (mxn sg) ps qs ms ns D → Same H H' → Dp K H' (.ref q) D → Q (.ref q) H'
section
variable {P : Program} {w : World} {K : PySem.W.Frag} {mg : Str → Option Value} {base : Heap}
theorem scJoined : FnScope ["one", "two", "sign"] ["one", "two", "sign"] (defScope sJoined) := ⟨rfl, rfl, rfl, by decide +kernel, rfl, by decide +kernel, by decide +kernel⟩
theorem ok_j5 {f : Addr} {fd : FuncData} (F : Fun K "_law_joined" "_law_joined" sJoined f fd) (T : Blt mg) : FnOk P w K mg base CX0 1 f fd ["one", "two", "sign"] spJ5 := by
  refine F.ok scJoined (fun vs H Q E h => ?_) (fun cdv A outer s H vs Q E hr h => ?_)
  · obtain ⟨i, j, sg, rfl, _⟩ := h
    rfl
  · obtain ⟨i, j, sg, rfl, k⟩ := h
    refine ⟨_, pss_cons (ps_if (pt_cmpR op_eq (pv 2) pe_int (nomark _))
        (pss_one (ps_ret (pe_callB (call_max2 rfl) (by rfl) T.max (by decide +kernel) (pa_cons (pv 0) (pa_cons (pv 1) pa_nil)))))
        pss_nil)
      (pss_one (ps_ret (pe_callB (call_min2 rfl) (by rfl) T.min (by decide +kernel) (pa_cons (pv 0) (pa_cons (pv 1) pa_nil))))), ?_⟩
    refine ⟨_, rfl, rfl, _, rfl, ite2 (fun c => ?_) (fun c => ?_)⟩
    · rw [show mxn sg = mxI from if_pos (of_dec c)] at k
      exact ⟨_, rfl, _, rfl, _, _, rfl, k⟩
    · rw [show mxn sg = mnI from if_neg (not_dec c)] at k
      exact ⟨_, rfl, _, rfl, _, _, rfl, k⟩
theorem scDueL : FnScope ["paces", "marks", "twins", "pairs", "sign", "found", "real", "at", "pace", "one", "two"] ["paces", "marks", "twins", "pairs", "sign"] (defScope sDueL) := ⟨rfl, rfl, rfl, by decide +kernel, rfl, by decide +kernel, by decide +kernel⟩
theorem ok_due5 {f fJ fP : Addr} {fd dJ dP : FuncData} (F : Fun K "_law_due" "_law_due" sDueL f fd) (T : Blt mg) (T5 : Blt5 mg) (T6 : Blt6 mg) (T7 : Blt7 mg) (Jo : At P w K mg base 1 "_law_joined" ["one", "two", "sign"] spJ5 fJ dJ) (Pc : At P w K mg base 1 "_law_pace" ["paces", "marks", "at"] spPace fP dP) :
    FnOk P w K mg base CX0 2 f fd ["paces", "marks", "twins", "pairs", "sign"] (spDue5 K) := by
  refine F.ok scDueL (fun vs H Q E h => ?_) (fun cdv A outer s H vs Q E hr h => ?_)
  · obtain ⟨a, b, c, d, ps, qs, ts, us, ms, ns, sg, rfl, _⟩ := h
    rfl
  · obtain ⟨a, b, c, d, ps, qs, ts, us, ms, ns, sg, rfl, ha, hb, tp, hc, hd, up, hp, hq, le, k⟩ := h
    have hr1 : Room 1 _ := hr.mono (by decide)
    refine ⟨_, pss_cons (ps_if (pt_cmpR op_ne (pe_callB call_len_seq (by rfl) T.len PySem.boot_len (pa_cons (pv 0) pa_nil)) (pe_callB call_len_seq (by rfl) T.len PySem.boot_len (pa_cons (pv 2) pa_nil)) (nomark _))
        (pss_one (ps_ret (pe_lst (pa_cons (pe_op op_cat (pe_lst (pa_cons pe_bl pa_nil)) (pe_op op_rep (pe_lst (pa_cons pe_bl pa_nil)) pe_int)) (pa_cons (pe_tup (pa_cons (pe_callB call_len_seq (by rfl) T.len PySem.boot_len (pa_cons (pv 0) pa_nil)) (pa_cons (pe_callB call_len_seq (by rfl) T.len PySem.boot_len (pa_cons (pv 2) pa_nil)) pa_nil))) pa_nil)))))
        pss_nil)
      (pss_cons (ps_setLc (i := 5) (own := [("one", 9), ("two", 10)]) (g := gTup K 2 (gCons (gName 9) (gCons (gName 10) gNil))) (tt := tYes) rfl scDueL.nd rfl rfl (sw_true rfl rfl rfl (by decide +kernel)) (pi_zip (by rfl) T6.zip (pa_cons (pv 0) (pa_cons (pv 2) pa_nil)))
          (blkOk_by (N := ["paces", "marks", "twins", "pairs", "sign", "found", "real", "at", "pace", "one", "two"]) (sc := defScope sDueL) (by decide +kernel)) (fun _ _ _ _ _ => pg_tup rfl (pgs_cons (pg_name (i := 9) scDueL.nd rfl (.inl rfl)) (pgs_cons (pg_name (i := 10) scDueL.nd rfl (.inl rfl)) pgs_nil))) (fun _ _ _ _ _ => pts_nil)
          (fun _ _ _ _ _ => (pe_call Jo.ok hr1 (by rfl) Jo.at_ Jo.kp Jo.bi .nil pass0 (pa_cons (pv 9) (pa_cons (pv 10) (pa_cons (pv 4) pa_nil))))))
      (pss_cons (ps_if (pt_cmpR op_eq (pe_callB (cr_max rfl) (by rfl) T.max (by decide +kernel) (pa_cons (pv 5) pa_nil)) pe_int (nomark _))
        (pss_one (ps_ret (pe_lst (pa_cons (pe_op op_cat (pe_lst (pa_cons pe_bl (pa_cons pe_bl pa_nil))) (pe_op op_rep (pe_lst (pa_cons pe_bl pa_nil)) pe_int)) (pa_cons pe_int pa_nil)))))
        pss_nil)
      (pss_cons (ps_set (i := 6) scDueL.nd rfl (.inl rfl) (pe_lst pa_nil))
      (pss_cons (ps_for PassesOwn.never rfl (pi_list (pe_callB (cr_sortedSet rfl) (by rfl) T5.sorted (by decide +kernel) (pa_cons (pe_callTy (cr_setL rfl) (by rfl) T7.set (by decide +kernel) (pa_cons (pe_lc (te := tVar 7) (own := [("at", 7), ("pace", 8)]) (g := gTup K 2 (gCons (gName 7) (gCons (gName 8) gNil))) (tt := tYes) rfl scDueL.nd (pi_list (pe_op op_cat (pv 1) (pv 3)))
          (blkOk_by (N := ["paces", "marks", "twins", "pairs", "sign", "found", "real", "at", "pace", "one", "two"]) (sc := defScope sDueL) (by decide +kernel)) (fun _ _ _ _ _ => pg_tup rfl (pgs_cons (pg_name (i := 7) scDueL.nd rfl (.inl rfl)) (pgs_cons (pg_name (i := 8) scDueL.nd rfl (.inl rfl)) pgs_nil))) (fun _ _ _ _ _ => pts_nil)
          (fun _ _ _ _ _ => (pv 7))) pa_nil)) pa_nil))) (pg_name (i := 7) scDueL.nd rfl (.inl rfl))
        (pss_cons (ps_set (i := 8) scDueL.nd rfl (.inl rfl) (pe_call Jo.ok hr1 (by rfl) Jo.at_ Jo.kp Jo.bi .nil pass0 (pa_cons (pe_call Pc.ok hr1 (by rfl) Pc.at_ Pc.kp Pc.bi .nil pass0 (pa_cons (pv 0) (pa_cons (pv 1) (pa_cons (pv 7) pa_nil)))) (pa_cons (pe_call Pc.ok hr1 (by rfl) Pc.at_ Pc.kp Pc.bi .nil pass0 (pa_cons (pv 2) (pa_cons (pv 3) (pa_cons (pv 7) pa_nil)))) (pa_cons (pv 4) pa_nil)))))
        (pss_one (ps_if (pt_cmpR op_ne (pv 8) (pe_ix ix_list (pv 5) (pe_op op_mod (pe_callTy call_int1 (by rfl) T.int (by decide +kernel) (pa_cons (pv 7) pa_nil)) (pe_callB call_len_seq (by rfl) T.len PySem.boot_len (pa_cons (pv 5) pa_nil))) (fun _ _ => rfl)) (nomark _))
          (pss_one (ps_expr (pe_bm PySem.F.plainAttrs_list PySem.F.slot_list_append PySem.F.type_list_append mt_append (pv 6) (pa_cons (pe_tup (pa_cons (pv 7) (pa_cons (pv 8) pa_nil))) pa_nil))))
          pss_nil))))
      (pss_one (ps_ret (pe_lst (pa_cons (pe_callB call_len_seq (by rfl) T.len PySem.boot_len (pa_cons (pv 5) pa_nil)) (pa_cons (pv 5) (pa_cons (pv 6) (pa_cons pe_bl (pa_cons pe_bl (pa_cons (pe_call Pc.ok hr1 (by rfl) Pc.at_ Pc.kp Pc.bi .nil pass0 (pa_cons (pv 5) (pa_cons (pv 6) (pa_cons pe_int pa_nil)))) (pa_cons (pe_call Pc.ok hr1 (by rfl) Pc.at_ Pc.kp Pc.bi .nil pass0 (pa_cons (pv 5) (pa_cons (pv 6) (pa_cons (pe_op op_pow pe_int pe_int) pa_nil)))) pa_nil)))))))))))))), ?_⟩
    have tl := tp.len
    have ul := up.len
    have lp : (((ps.map V.int).length : Nat) : Int) = ps.length := by rw [List.length_map]
    have lq : (((qs.map V.int).length : Nat) : Int) = qs.length := by rw [List.length_map]
    refine ⟨_, rfl, a, _, rfl, .inl (SqL.of ha), _, rfl, c, _, rfl, .inl (SqL.of hc), rfl, _, rfl, ?_⟩
    rw [lp, lq]
    by_cases len : ps.length = qs.length
    rotate_left
    · have g' : ¬ (V.int (ps.length : Nat) : V) = V.int (qs.length : Nat) := fun z => by
        injection z with z
        omega
      rw [decide_eq_false g']
      refine ite2 (fun _ => ?_) (fun z => absurd (show (!false) = true from rfl) z)
      refine ⟨(by show 1 ≤ sizeLine; decide), fun g1 m1 => ⟨(by show 1 ≤ sizeLine; decide), fun g2 m2 => ⟨g2, 4, _, rfl, rfl, upd_same, by decide, by decide, (by show 1 * 4 ≤ sizeLine; decide), fun g3 m3 => ?_⟩⟩⟩
      have s1 := same_new (o := .lst [V.bl true]) m1
      have s2 := same_new (o := .lst [V.bl false]) m2
      have s3 := same_new (o := .lst (List.replicate (4 : Int).toNat [V.bl false]).flatten) m3
      refine ⟨g1, g3, _, _, rfl, rfl, s3 _ _ (s2 _ _ upd_same), upd_same, (by show 5 ≤ sizeLine; decide), fun g4 m4 => ?_⟩
      have s4 := same_new (o := .lst ([V.bl true] ++ (List.replicate (4 : Int).toNat [V.bl false]).flatten)) m4
      have s14 := (s1.trans s2).trans (s3.trans s4)
      refine ⟨_, rfl, a, _, rfl, .inl (SqL.of (s14 _ _ ha)), _, rfl, c, _, rfl, .inl (SqL.of (s14 _ _ hc)), (by show 2 ≤ sizeLine; decide), fun t nt => ⟨(by show 2 ≤ sizeLine; decide), fun r nr => ?_⟩⟩
      rw [lp, lq] at nr ⊢
      have s5 := same_new (o := .tup [V.int (ps.length : Nat), V.int (qs.length : Nat)]) nt
      have s6 := same_new (o := .lst [V.ref g4, V.ref t]) nr
      exact k _ r _ (.inl ⟨len, rfl⟩) (s14.trans (s5.trans s6)) (.lst (SqL.of upd_same) (.cons (.lst (xs := [.bl true, .bl false, .bl false, .bl false, .bl false]) (SqL.of (s6 _ _ (s5 _ _ upd_same))) (.cons (.bl _) (.cons (.bl _) (.cons (.bl _) (.cons (.bl _) (.cons (.bl _) .nil)))))) (.cons (.tup (SqT.of (s6 _ _ upd_same)) (.cons (.int _) (.cons (.int _) .nil))) .nil)))
    rw [len, decide_eq_true rfl]
    refine ite2 (fun g => absurd g (by decide)) (fun _ => ?_)
    have l0 := hp.len0
    have l1 := hp.len1
    -- found
    refine ⟨_, rfl, _, rfl, a, c, _, _, rfl, SqL.of ha, SqL.of hc, fun D nD => lc_it (walk_zip (K := K) (a := a) (b := c) (xs := ps.map V.int) (ys := qs.map V.int) (n := ps.length) (by rw [List.length_map, List.length_map, len, Nat.min_self])) (fun i J => J D = some (.lst ((List.zipWith (mxn sg) (ps.take i) (qs.take i)).map V.int)) ∧ Same H J) ⟨upd_same, same_new nD⟩ (fun i J _ ⟨_, h⟩ => ⟨SqL.of (h _ _ ha), SqL.of (h _ _ hc)⟩) ?_ ?_⟩
    · rintro i v J J' ip ⟨hJ, sJ⟩ ⟨t, x, y, rfl, nt, rfl, ex, ey⟩
      have iq : i < qs.length := by omega
      have ex : (ps.map V.int)[i]? = some x := ex
      have ey : (qs.map V.int)[i]? = some y := ey
      rw [List.getElem?_map, List.getElem?_eq_getElem ip] at ex
      rw [List.getElem?_map, List.getElem?_eq_getElem iq] at ey
      obtain rfl := Option.some.inj ex
      obtain rfl := Option.some.inj ey
      have gt := same_new (o := .tup [.int ps[i], .int qs[i]]) nt
      have ez : List.zipWith (mxn sg) (ps.take (i + 1)) (qs.take (i + 1)) = List.zipWith (mxn sg) (ps.take i) (qs.take i) ++ [mxn sg ps[i] qs[i]] := by
        rw [List.take_add_one, List.take_add_one, List.getElem?_eq_getElem ip, List.getElem?_eq_getElem iq, List.zipWith_append (by rw [List.length_take, List.length_take, len])]
        rfl
      refine ⟨_, _, rfl, .inl (.inl upd_same), rfl, _, _, rfl, _, [], rfl, rfl, rfl, ?_⟩
      refine ⟨_, rfl, _, rfl, _, rfl, ⟨ps[i], qs[i], sg, rfl, ?_⟩⟩
      refine ⟨_, gt _ _ hJ, ?_, ?_, fun c o e => ?_⟩
      · rw [List.length_map, List.length_zipWith, List.length_take, List.length_take]
        exact small1000 (by omega)
      · rw [upd_same, ez, List.map_append]
        rfl
      · rw [upd_ne (ne_of_none e nD)]
        exact gt _ _ (sJ c o e)
    rintro J ⟨hJ, sJ⟩
    rw [List.take_length, len, List.take_length] at hJ
    have jl := joinP_len (f := mxn sg) len
    have all : ∀ v ∈ joinP (mxn sg) ps qs, 0 ≤ v ∧ v ≤ 3 := fun v hv => by
      obtain ⟨x, hx, y, hy, rfl⟩ := mem_zip hv
      have g1 := hp.lo x hx
      have g2 := hq.lo y hy
      exact mxnF sg x y g1.1 g1.2 g2.1 g2.2
    replace hJ : J D = some (.lst ((joinP (mxn sg) ps qs).map V.int)) := hJ
    have told := fun (D' : PyData) (q : Addr) (H' : Hp) (h : ToldD (mxn sg) ps qs ms ns D') (s : Same J H') (dp : Dp K H' (.ref q) D') => k D' q H' h (sJ.trans s) dp
    clear k
    refine ⟨_, rfl, D, _, rfl, SqL.of hJ, by omega, fun m hm hmax => ⟨rfl, _, rfl, ite2 (fun g => ?_) (fun g => ?_)⟩⟩
    · have g := of_dec g
      subst g
      have z : ∀ v ∈ joinP (mxn sg) ps qs, v = 0 := fun v hv => by
        have h1 := hmax v hv
        have h2 := (all v hv).1
        omega
      refine ⟨(by show 2 ≤ sizeLine; decide), fun g1 m1 => ⟨(by show 1 ≤ sizeLine; decide), fun g2 m2 => ⟨g2, 3, _, rfl, rfl, upd_same, by decide, by decide, (by show 1 * 3 ≤ sizeLine; decide), fun g3 m3 => ?_⟩⟩⟩
      have s1 := same_new (o := .lst [V.bl false, V.bl true]) m1
      have s2 := same_new (o := .lst [V.bl false]) m2
      have s3 := same_new (o := .lst (List.replicate (3 : Int).toNat [V.bl false]).flatten) m3
      refine ⟨g1, g3, _, _, rfl, rfl, s3 _ _ (s2 _ _ upd_same), upd_same, (by show 5 ≤ sizeLine; decide), fun g4 m4 => ?_⟩
      have s4 := same_new (o := .lst ([V.bl false, V.bl true] ++ (List.replicate (3 : Int).toNat [V.bl false]).flatten)) m4
      have s14 := (s1.trans s2).trans (s3.trans s4)
      refine ⟨(by show 2 ≤ sizeLine; decide), fun r nr => ?_⟩
      have s6 := same_new (o := .lst [V.ref g4, V.int 0]) nr
      exact told _ r _ (.inr (.inl ⟨len, z, rfl⟩)) (s14.trans s6) (.lst (SqL.of upd_same) (.cons (.lst (xs := [.bl false, .bl true, .bl false, .bl false, .bl false]) (SqL.of (s6 _ _ upd_same)) (.cons (.bl _) (.cons (.bl _) (.cons (.bl _) (.cons (.bl _) (.cons (.bl _) .nil)))))) (.cons (.int _) .nil)))
    have g : m ≠ 0 := fun z => g (decide_eq_true (by rw [z]))
    have pj : Paces (joinP (mxn sg) ps qs) := ⟨all, ⟨m, hm, g⟩, by omega, by omega⟩
    -- real
    refine ⟨Nat.zero_le _, fun R nR => ?_⟩
    have sR := same_new (o := .lst []) nR
    have hR := upd_same (H := J) (a := R) (o := .lst [])
    generalize upd J R (.lst []) = J0 at sR hR ⊢
    have s0 := sJ.trans sR
    refine ⟨_, rfl, _, rfl, b, d, _, _, rfl, rfl, s0 _ _ hb, s0 _ _ hd, by rw [List.length_map, List.length_map, sizeLine_eq]; omega, fun G nG => ?_⟩
    have s2 := same_new (o := .lst (ts.map V.ref ++ us.map V.ref)) nG
    have hG := upd_same (H := J0) (a := G) (o := .lst (ts.map V.ref ++ us.map V.ref))
    rw [← List.map_append] at hG s2 ⊢
    have al := ((tp.same s0).append (up.same s0)).same s2
    generalize upd J0 G (.lst ((ts ++ us).map V.ref)) = J1 at hG s2 al ⊢
    have ll := al.len
    refine ⟨G, rfl, ⟨_, SqL.of hG⟩, fun M nM => lc_list (K := K) (a := G) (xs := (ts ++ us).map V.ref) (fun i J2 => J2 M = some (.lst ((((ms ++ ns).take i).map fun m => m.1).map V.int)) ∧ Same J1 J2) ⟨upd_same, same_new nM⟩ (fun i J2 _ ⟨_, h⟩ => SqL.of (h _ _ hG)) ?_ ?_⟩
    · rintro i y J2 hi' ⟨hU, sU⟩
      have hi2 : i < (ts ++ us).length := by
        have := (List.getElem?_eq_some_iff.mp hi').1
        simpa using this
      rw [List.getElem?_map, List.getElem?_eq_getElem hi2] at hi'
      obtain rfl := Option.some.inj hi'
      obtain ⟨m, hm', hm2⟩ := (al.same sU).get (List.getElem?_eq_getElem hi2)
      have et : (ms ++ ns).take (i + 1) = (ms ++ ns).take i ++ [m] := by rw [List.take_add_one, hm']; rfl
      refine ⟨_, _, rfl, .inl (.inl hm2), rfl, _, _, rfl, _, [], rfl, rfl, rfl, ?_⟩
      refine ⟨_, rfl, _, hU, ?_, ?_, fun c o e => ?_⟩
      · rw [List.length_map, List.length_map, List.length_take, List.length_append]
        exact small1000 (by omega)
      · rw [upd_same, et, List.map_append, List.map_append]
        rfl
      · rw [upd_ne (ne_of_none e nM)]
        exact sU c o e
    rintro J2 ⟨hU, sU⟩
    rw [List.length_map, ll, List.take_length] at hU
    refine ⟨M, _, rfl, SqL.of hU, by show _ < 4096; rw [List.length_map, List.length_append]; omega, fun S n nS nl => ?_⟩
    have s3 := same_new (o := SetO w S (fun j => decide (j ∈ (ms ++ ns).map fun m => m.1)) n) nS
    rw [List.length_map, List.length_append] at nl
    refine ⟨S, _, n, rfl, upd_same, by omega, fun ks O asc mem kl nO => ?_⟩
    have s4 := same_new (o := .lst (ks.map V.int)) nO
    have RO : R ≠ O := ne_of_none (((s2.trans sU).trans s3) _ _ hR) nO
    obtain ⟨J4, e4⟩ : ∃ J4, J4 = upd (upd J2 S (SetO w S (fun j => decide (j ∈ (ms ++ ns).map fun m : Int × Int => m.1)) n)) O (.lst (ks.map V.int)) := ⟨_, rfl⟩
    have hO' := upd_same (H := upd J2 S (SetO w S (fun j => decide (j ∈ (ms ++ ns).map fun m => m.1)) n)) (a := O) (o := .lst (ks.map V.int))
    have hO : J4 O = some (.lst (ks.map V.int)) := by rw [e4]; exact hO'
    have s04 : Same J0 J4 := by rw [e4]; exact (s2.trans sU).trans (s3.trans s4)
    have hR4' := ((s2.trans sU).trans (s3.trans s4)) _ _ hR
    have sJ4 : Same J J4 := sR.trans s04
    have hR4 := s04 _ _ hR
    have mem2 : ∀ k, k ∈ ks ↔ k ∈ (ms ++ ns).map (·.1) := fun k => by rw [mem k]; simp
    have kl2 : ks.length ≤ ms.length + ns.length := by omega
    have er : ∀ i (h : i < ks.length), realOf (joinP (mxn sg) ps qs) (joinM (mxn sg) ps qs ms ns (ks.take (i + 1))) = realOf (joinP (mxn sg) ps qs) (joinM (mxn sg) ps qs ms ns (ks.take i)) ++ (if mxn sg (speedAt ps ms ks[i]) (speedAt qs ns ks[i]) = paceOf (joinP (mxn sg) ps qs) ks[i] then [] else [(ks[i], mxn sg (speedAt ps ms ks[i]) (speedAt qs ns ks[i]))]) := fun i h => by
      have et : ks.take (i + 1) = ks.take i ++ [ks[i]] := by rw [List.take_add_one, List.getElem?_eq_getElem h]; rfl
      rw [et]
      unfold joinM realOf
      rw [List.map_append, List.filter_append]
      congr 1
      split
      · rename_i e
        simp [e]
      · rename_i e
        simp [e]
    generalize hJ0 : joinP (mxn sg) ps qs = JJ at hJ jl pj told er ⊢
    have j0 := pj.len0
    refine ⟨O, rfl, ⟨_, SqL.of hO'⟩, for_list (K := K) (a := O) (xs := ks.map V.int) (fun i σ J5 => ∃ (vs : List Addr) (y7 y8 : Option V), σ = [some (.ref a), some (.ref b), some (.ref c), some (.ref d), some (.int sg), some (.ref D), some (.ref R), y7, y8, none, none] ∧ J5 R = some (.lst (vs.map V.ref)) ∧ Tups J5 vs (realOf JJ (joinM (mxn sg) ps qs ms ns (ks.take i))) ∧ Fr R J4 J5)
      ⟨[], none, none, rfl, hR4', trivial, (by rw [e4]; exact Fr.refl R _)⟩ (fun i σ J5 _ ⟨_, _, _, _, _, _, f⟩ => SqL.of (f _ _ hO RO.symm)) ?_ ?_⟩
    · rintro i y σ J5 hi' ⟨vs, y7, y8, rfl, hV, hvs, fV⟩
      have hi2 : i < ks.length := by
        have := (List.getElem?_eq_some_iff.mp hi').1
        simpa using this
      rw [List.getElem?_map, List.getElem?_eq_getElem hi2] at hi'
      obtain rfl := Option.some.inj hi'
      have eri := er i hi2
      have sX : Same J J5 := fun c o e => fV _ _ (sJ4 _ _ e) (ne_of_none e nR)
      have sH := sJ.trans sX
      have hJ5 := sX _ _ hJ
      refine ⟨_, rfl, _, rfl, _, rfl, ⟨a, b, ps, ts, ms, ks[i], rfl, sH _ _ ha, sH _ _ hb, tp.same sH, l0, ?_⟩⟩
      refine ⟨_, rfl, _, rfl, _, rfl, ⟨c, d, qs, us, ns, ks[i], rfl, sH _ _ hc, sH _ _ hd, up.same sH, by omega, _, rfl, ⟨_, _, sg, rfl, ?_⟩⟩⟩
      refine ⟨_, rfl, _, rfl, _, rfl, .inl ⟨_, rfl, _, rfl, D, _, rfl, .inl (SqL.of hJ5), _, _, rfl, rfl, (by rw [List.length_map]; omega), D, _, _, .int (paceOf JJ ks[i]), rfl, rfl, SqL.of hJ5, (by rw [List.length_map]; exact atI_pace j0), rfl, _, rfl, ?_⟩⟩
      generalize mxn sg (speedAt ps ms ks[i]) (speedAt qs ns ks[i]) = v at eri ⊢
      have vl := hvs.len
      by_cases hc : v = paceOf JJ ks[i]
      · rw [if_pos hc, List.append_nil] at eri
        rw [hc, decide_eq_true rfl]
        refine ite2 (fun g => absurd g (by decide)) (fun _ => ⟨vs, _, _, rfl, hV, ?_, fV⟩)
        rw [eri]
        exact hvs
      · have hc' : ¬ V.int v = V.int (paceOf JJ ks[i]) := fun z => hc (by injection z)
        rw [if_neg hc] at eri
        rw [decide_eq_false hc']
        refine ite2 (fun _ => ?_) (fun z => absurd (show (!false) = true from rfl) z)
        refine ⟨_, rfl, .inl ⟨rfl, _, SqL.of hV⟩, _, rfl, _, rfl, (by show 2 ≤ sizeLine; decide), fun t nt => ?_⟩
        have gt := same_new (o := .tup [.int ks[i], .int v]) nt
        have jm : (realOf JJ (joinM (mxn sg) ps qs ms ns (ks.take i))).length ≤ i := by
          refine Nat.le_trans (List.length_filter_le _ _) ?_
          unfold joinM
          rw [List.length_map, List.length_take]
          omega
        refine ⟨R, _, .ref t, rfl, rfl, gt _ _ hV, by rw [List.length_map]; exact small1000 (by omega), vs ++ [t], _, _, rfl, ?_, ?_, fun c o e ne => ?_⟩
        · rw [upd_same, List.map_append]
          rfl
        · rw [eri]
          exact ((hvs.same gt).snoc (m := (ks[i], v)) upd_same).put (gt _ _ hV)
        · rw [upd_ne ne]
          exact gt _ _ (fV c o e ne)
    · rintro σ J5 ⟨vs, y7, y8, rfl, hV, hvs, fV⟩
      rw [List.length_map, List.take_length] at hvs
      have sX : Same J J5 := fun c o e => fV _ _ (sJ4 _ _ e) (ne_of_none e nR)
      have hJ5 := sX _ _ hJ
      generalize hrs : realOf JJ (joinM (mxn sg) ps qs ms ns ks) = rs at hvs
      refine ⟨_, rfl, D, _, rfl, .inl (SqL.of hJ5), _, rfl, _, rfl, _, rfl, _, rfl, ⟨D, R, JJ, vs, rs, 3, rfl, hJ5, hV, hvs, j0, ?_⟩⟩
      refine ⟨_, rfl, _, rfl, _, _, rfl, rfl, ⟨by decide, by decide, by decide⟩, ⟨D, R, JJ, vs, rs, 10 ^ 30, rfl, hJ5, hV, hvs, j0, (by show 7 ≤ sizeLine; decide), fun g5 m5 => ?_⟩⟩
      have t5 := same_new (o := .lst [.int ((JJ.map V.int).length : Nat), .ref D, .ref R, .bl true, .bl true, .int (speedAt JJ rs 3), .int (speedAt JJ rs (10 ^ 30))]) m5
      have ejl : (((JJ.map V.int).length : Nat) : Int) = JJ.length := by rw [List.length_map]
      refine told (dOk JJ rs) g5 _ (.inr (.inr ⟨len, by rw [hJ0]; exact pj, ks, asc, mem2, kl2, by rw [hJ0, hrs]⟩)) (sX.trans t5) (.lst (SqL.of upd_same) ?_)
      rw [ejl] at t5 ⊢
      exact .cons (.int _) (.cons (dp_ints (SqL.of (t5 _ _ hJ5))) (.cons (dp_marks (SqL.of (t5 _ _ hV)) (hvs.same t5)) (.cons (.bl _) (.cons (.bl _) (.cons (.int _) (.cons (.int _) .nil))))))
end

/-! ### what is told is what is due -/
theorem real_ne {ps : List Int} {ms : List (Int × Int)} : ∀ m ∈ realOf ps ms, m.2 ≠ paceOf ps m.1 := fun _ hm => of_decide_eq_true (List.mem_filter.mp hm).2
theorem real_sub {ps : List Int} {ms ns : List (Int × Int)} (h : ∀ t, speedAt ps ms t = speedAt ps ns t) (r : ∀ m ∈ ms, m.2 ≠ paceOf ps m.1) (a : ms.Pairwise fun a b => a.1 < b.1) : ∀ m ∈ ms, m ∈ ns := by
  intro m hm
  have e1 : speedAt ps ms m.1 = m.2 := by
    unfold speedAt
    cases f : ms.find? (fun k => decide (k.1 = m.1)) with
    | none =>
      have := List.find?_eq_none.mp f m hm
      exact absurd (decide_eq_true rfl) this
    | some k =>
      have hk := List.mem_of_find?_eq_some f
      have e : k.1 = m.1 := by
        have f2 := List.find?_some f
        simpa using f2
      rw [asc_one a hk hm e]
      rfl
  have e2 := h m.1
  rw [e1] at e2
  unfold speedAt at e2
  cases f : ns.find? (fun k => decide (k.1 = m.1)) with
  | none =>
    rw [f] at e2
    exact absurd e2 (r m hm)
  | some k =>
    rw [f] at e2
    have hk := List.mem_of_find?_eq_some f
    have e : k.1 = m.1 := by
      have f2 := List.find?_some f
      simpa using f2
    have e3 : k.2 = m.2 := e2.symm
    rw [show m = k from Prod.ext e.symm e3.symm]
    exact hk
theorem Marks.fit5 {cap : Int} {ms : List (Int × Int)} (h : Marks cap ms) (g : cap ≤ 3) : Fit ms := ⟨h.asc, h.val, by have := h.len; omega⟩
theorem ToldD.two {f : Int → Int → Int} (hf : ∀ i j, 0 ≤ i → i ≤ 3 → 0 ≤ j → j ≤ 3 → 0 ≤ f i j ∧ f i j ≤ 3) {ps qs : List Int} {ms ns : List (Int × Int)} {D D' : PyData} (hp : Paces ps) (hq : Paces qs) (fm : Fit ms) (fn : Fit ns) (le : ms.length + ns.length ≤ 60)
    (a : ToldD f ps qs (realOf ps ms) (realOf qs ns) D) (b : ToldD f ps qs ms ns D') : D = D' := by
  rcases a with ⟨n, rfl⟩ | ⟨e, z, rfl⟩ | ⟨e, p, ks, k1, k2, kl, rfl⟩ <;> rcases b with ⟨n', rfl⟩ | ⟨e', z', rfl⟩ | ⟨e', p', ks', l1, l2, ll, rfl⟩
  · rfl
  · exact absurd e' n
  · exact absurd e' n
  · exact absurd e n'
  · rfl
  · exact (p'.some z).elim
  · exact absurd e n'
  · exact (p.some z').elim
  · have rm := realFit (ps := ps) fm
    have rn := realFit (ps := qs) fn
    have lm : (realOf ps ms).length ≤ ms.length := List.length_filter_le _ _
    have ln : (realOf qs ns).length ≤ ns.length := List.length_filter_le _ _
    have f1 : Fit (joinM f ps qs (realOf ps ms) (realOf qs ns) ks) := joinMF_fit hf hp hq rm rn k1 (by omega)
    have f2 : Fit (joinM f ps qs ms ns ks') := joinMF_fit hf hp hq fm fn l1 (by omega)
    have sp : ∀ t, speedAt (joinP f ps qs) (realOf (joinP f ps qs) (joinM f ps qs (realOf ps ms) (realOf qs ns) ks)) t = speedAt (joinP f ps qs) (realOf (joinP f ps qs) (joinM f ps qs ms ns ks')) t := fun t => by
      rw [speed_real f1.asc, speed_real f2.asc, join_speed e hp.len0 (fun k hk => (k2 k).mpr hk), join_speed e hp.len0 (fun k hk => (l2 k).mpr hk), speed_real fm.asc, speed_real fn.asc]
    have r1 := real_ne (ps := joinP f ps qs) (ms := joinM f ps qs (realOf ps ms) (realOf qs ns) ks)
    have r2 := real_ne (ps := joinP f ps qs) (ms := joinM f ps qs ms ns ks')
    have g1 := (realFit (ps := joinP f ps qs) f1).asc
    have g2 := (realFit (ps := joinP f ps qs) f2).asc
    generalize realOf (joinP f ps qs) (joinM f ps qs (realOf ps ms) (realOf qs ns) ks) = xs at sp r1 g1 ⊢
    generalize realOf (joinP f ps qs) (joinM f ps qs ms ns ks') = ys at sp r2 g2 ⊢
    have s1 := asc_sub g1 g2 (real_sub sp r1 g1)
    have s2 := asc_sub g2 g1 (real_sub (fun t => (sp t).symm) r2 g2)
    rw [s1.eq_of_length (Nat.le_antisymm s1.length_le s2.length_le)]
theorem rp_toldD {f : Int → Int → Int} (hf : ∀ i j, 0 ≤ i → i ≤ 3 → 0 ≤ j → j ≤ 3 → 0 ≤ f i j ∧ f i j ≤ 3) {ps qs : List Int} {ms ns : List (Int × Int)} {D : PyData} (hp : Paces ps) (hq : Paces qs) (fm : Fit ms) (fn : Fit ns) (le : ms.length + ns.length ≤ 60)
    (b1 : ∀ m ∈ ms, -10 ^ 40 < m.1 ∧ m.1 < 10 ^ 40) (b2 : ∀ m ∈ ns, -10 ^ 40 < m.1 ∧ m.1 < 10 ^ 40) (a : ToldD f ps qs ms ns D) : Rp D 1000 40 := by
  have p1 := hp.len1
  have q1 := hq.len1
  have B : ∀ b : Bool, Rp (.bool b) 0 0 := Rp.bool
  rcases a with ⟨n, rfl⟩ | ⟨e, z, rfl⟩ | ⟨e, p, ks, k1, k2, kl, rfl⟩
  · exact (Rp.list (.cons (Rp.list (.cons (B _) (.cons (B _) (.cons (B _) (.cons (B _) (.cons (B _) .nil)))))) (.cons (Rp.tup (.cons (Rp.int (by omega) (by omega)) (.cons (Rp.int (by omega) (by omega)) .nil))) .nil))).mono (by omega) (by omega)
  · exact (Rp.list (.cons (Rp.list (.cons (B _) (.cons (B _) (.cons (B _) (.cons (B _) (.cons (B _) .nil)))))) (.cons (Rp.int (by omega) (by omega)) .nil))).mono (by omega) (by omega)
  · have f1 : Fit (joinM f ps qs ms ns ks) := joinMF_fit hf hp hq fm fn k1 (by omega)
    have fr := realFit (ps := joinP f ps qs) f1
    have jl := p.len1
    have v1 := speed_lo p fr 3
    have v2 := speed_lo p fr (10 ^ 30)
    have rl : (realOf (joinP f ps qs) (joinM f ps qs ms ns ks)).length ≤ 60 := by
      refine Nat.le_trans (List.length_filter_le _ _) ?_
      unfold joinM
      rw [List.length_map]
      omega
    have kb : ∀ m ∈ realOf (joinP f ps qs) (joinM f ps qs ms ns ks), -10 ^ 40 < m.1 ∧ m.1 < 10 ^ 40 ∧ -10 ^ 40 < m.2 ∧ m.2 < 10 ^ 40 := fun m hm => by
      have v := fr.val m hm
      obtain ⟨k, hk, rfl⟩ := List.mem_map.mp (List.mem_filter.mp hm).1
      have hk2 := (k2 k).mp hk
      rw [List.map_append, List.mem_append] at hk2
      have kk : -10 ^ 40 < k ∧ k < 10 ^ 40 := by
        rcases hk2 with g | g
        · obtain ⟨m9, hm9, rfl⟩ := List.mem_map.mp g
          exact b1 m9 hm9
        · obtain ⟨m9, hm9, rfl⟩ := List.mem_map.mp g
          exact b2 m9 hm9
      exact ⟨kk.1, kk.2, by omega, by omega⟩
    have ri : Rp (dInts (joinP f ps qs)) 12 1 := (rp_ints fun v hv => by have := p.lo v hv; omega).mono jl (Nat.le_refl _)
    have rm := rp_marks kb
    exact (Rp.list (.cons (Rp.int (by omega) (by omega)) (.cons ri (.cons rm (.cons (B _) (.cons (B _) (.cons (Rp.int (by omega) (by omega)) (.cons (Rp.int (by omega) (by omega)) .nil)))))))).mono (by omega) (by omega)

section
variable {P : Program} {w : World} {K : PySem.W.Frag} {mg : Str → Option Value} {base : Heap}
theorem scFits : FnScope ["well", "size", "way", "other", "paces", "twins", "marks", "pairs", "made", "twin", "turn", "sign", "real", "at", "pace"] ["well"] (defScope sFits) := ⟨rfl, rfl, rfl, by decide +kernel, rfl, by decide +kernel, by decide +kernel⟩
theorem ok_fits {f fT fP fM fI fL fD C p1 g1 p2 g2 p3 g3 : Addr} {fd dT dP dM dI dL dD d1 d2 d3 : FuncData} (F : Fun K "_law_fits" "_law_fits" sFits f fd) (T : Blt mg) (Z : Cal K mg C) (L : Tk P w K mg base fT dT)
    (Pa : At P w K mg base 2 "_law_paces" ["well", "size"] spPaces fP dP) (Ma : At P w K mg base 3 "_law_marks" ["well", "size", "cap"] spMarks fM dM)
    (MK : Mk K C fI) (GI : FnOk P w K mg base CX0 3 fI dI ["self", "speeds", "changes"] (spInit C K)) (bI : Binds K dI ["self", "speeds", "changes"] [])
    (To : At P w K mg base 8 "_law_told" ["made", "twin", "sign"] (spTold5 C K) fL dL) (Du : At P w K mg base 2 "_law_due" ["paces", "marks", "twins", "pairs", "sign"] (spDue5 K) fD dD)
    (W1 : Pp P w K mg base C "week" (spWeek C) p1 g1 d1) (W2 : Pp P w K mg base C "speeds" (spSpeeds C) p2 g2 d2) (W3 : Pp P w K mg base C "changes" (spChanges C) p3 g3 d3) : FnG P w K mg base 9 f fd ["well"] spFits := by
  refine okG F scFits (fun vs H Q E h => ?_) (fun cdv A outer s H vs Q E hgd hr h => ?_)
  · obtain ⟨p, n, rfl, _⟩ := h
    rfl
  · obtain ⟨p, n, rfl, hW, hn, k⟩ := h
    have hr1 : Room 1 _ := hr.mono (by decide)
    have hr2 : Room 2 _ := hr.mono (by decide)
    have hr3 : Room 3 _ := hr.mono (by decide)
    have hr4 : Room 4 _ := hr.mono (by decide)
    have hr7 : Room 8 _ := hr.mono (by decide)
    have hu := hr.units
    refine ⟨_, pss_cons (ps_asg (pe_tup (pa_cons (pe_op op_add pe_int (pe_call L.ok hr1 (by rfl) L.at_ L.kp L.bi .nil pass0 (pa_cons (pv 0) (pa_cons pe_int pa_nil)))) (pa_cons (pe_call L.ok hr1 (by rfl) L.at_ L.kp L.bi .nil pass0 (pa_cons (pv 0) (pa_cons pe_int pa_nil))) pa_nil))) (pg_tup rfl (pgs_cons (pg_name (i := 1) scFits.nd rfl (.inr rfl)) (pgs_cons (pg_name (i := 2) scFits.nd rfl (.inl rfl)) pgs_nil))))
      (pss_cons (ps_set (i := 3) scFits.nd rfl (.inr rfl) (pv 1))
      (C8.pss_cut (ps_if (pt_cmpR op_eq (pv 2) pe_int (nomark _))
        (pss_one (ps_set (i := 3) scFits.nd rfl (.inr rfl) (pe_op op_add pe_int (pe_call L.ok hr1 (by rfl) L.at_ L.kp L.bi .nil pass0 (pa_cons (pv 0) (pa_cons pe_int pa_nil))))))
        pss_nil)
      (pss_cons (ps_asg (pe_tup (pa_cons (pe_call Pa.ok hr2 (by rfl) Pa.at_ Pa.kp Pa.bi .nil pass0 (pa_cons (pv 0) (pa_cons (pv 1) pa_nil))) (pa_cons (pe_call Pa.ok hr2 (by rfl) Pa.at_ Pa.kp Pa.bi .nil pass0 (pa_cons (pv 0) (pa_cons (pv 3) pa_nil))) pa_nil))) (pg_tup rfl (pgs_cons (pg_name (i := 4) scFits.nd rfl (.inr rfl)) (pgs_cons (pg_name (i := 5) scFits.nd rfl (.inr rfl)) pgs_nil))))
      (pss_cons (ps_par (i := 6) (j := 7) rfl scFits.nd rfl rfl (by decide) rfl rfl (pa_cons (pe_call Ma.ok hr3 (by rfl) Ma.at_ Ma.kp Ma.bi .nil pass0 (pa_cons (pv 0) (pa_cons (pv 1) (pa_cons pe_int pa_nil)))) (pa_cons (pe_call Ma.ok hr3 (by rfl) Ma.at_ Ma.kp Ma.bi .nil pass0 (pa_cons (pv 0) (pa_cons (pv 3) (pa_cons pe_int pa_nil)))) pa_nil)) (by rfl))
      (C8.pss_cut (ps_if (pt_cmpR op_eq (pe_call L.ok hr1 (by rfl) L.at_ L.kp L.bi .nil pass0 (pa_cons (pv 0) (pa_cons pe_int pa_nil))) pe_int (nomark _))
        (pss_one (ps_setLc (i := 7) (own := [("at", 13), ("pace", 14)]) (g := gTup K 2 (gCons (gName 13) (gCons (gName 14) gNil))) (tt := tYes) rfl scFits.nd rfl rfl (sw_true rfl rfl rfl (by decide +kernel)) (pi_list (pv 6))
          (blkOk_by (N := ["well", "size", "way", "other", "paces", "twins", "marks", "pairs", "made", "twin", "turn", "sign", "real", "at", "pace"]) (sc := defScope sFits) (by decide +kernel)) (fun _ _ _ _ _ => pg_tup rfl (pgs_cons (pg_name (i := 13) scFits.nd rfl (.inl rfl)) (pgs_cons (pg_name (i := 14) scFits.nd rfl (.inl rfl)) pgs_nil))) (fun _ _ _ _ _ => pts_nil)
          (fun _ _ _ _ _ => (pe_tup (pa_cons (pv 13) (pa_cons (pe_call L.ok hr1 (by rfl) L.at_ L.kp L.bi .nil pass0 (pa_cons (pv 0) (pa_cons pe_int pa_nil))) pa_nil))))))
        pss_nil)
      (pss_cons (ps_par (i := 8) (j := 9) rfl scFits.nd rfl rfl (by decide) rfl rfl (pa_cons (pe_make MK GI hr4 (by rfl) Z.at_ bI .nil pass0 (pa_cons (pe_callTy call_list_of (by rfl) T.list (by decide +kernel) (pa_cons (pv 4) pa_nil)) (pa_cons (pe_callTy call_list_of (by rfl) T.list (by decide +kernel) (pa_cons (pv 6) pa_nil)) pa_nil))) (pa_cons (pe_make MK GI hr4 (by rfl) Z.at_ bI .nil pass0 (pa_cons (pe_callTy call_list_of (by rfl) T.list (by decide +kernel) (pa_cons (pv 5) pa_nil)) (pa_cons (pe_callTy call_list_of (by rfl) T.list (by decide +kernel) (pa_cons (pv 7) pa_nil)) pa_nil))) pa_nil)) (by rfl))
      (pss_cons (ps_for PassesOwn.never rfl (pi_range1 (by rfl) T.range (pa_cons pe_int pa_nil)) (pg_name (i := 10) scFits.nd rfl (.inl rfl))
        (pss_one (ps_for PassesOwn.never rfl (pi_range1 (by rfl) T.range (pa_cons pe_int pa_nil)) (pg_name (i := 11) scFits.nd rfl (.inl rfl))
          (pss_cons (ps_if (pt_cmpR op_ne (pe_callB (call_rep2 hgd hu) (by rfl) T.repr (by decide +kernel) (pa_cons (pe_call To.ok hr7 (by rfl) To.at_ To.kp To.bi .nil pass0 (pa_cons (pv 8) (pa_cons (pv 9) (pa_cons (pv 11) pa_nil)))) pa_nil)) (pe_callB (call_rep2 hgd hu) (by rfl) T.repr (by decide +kernel) (pa_cons (pe_call Du.ok hr2 (by rfl) Du.at_ Du.kp Du.bi .nil pass0 (pa_cons (pv 4) (pa_cons (pv 6) (pa_cons (pv 5) (pa_cons (pv 7) (pa_cons (pv 11) pa_nil)))))) pa_nil)) (nomark _))
            (pss_one (ps_ret pe_bl))
            pss_nil)
          (pss_one (ps_if (pt_cmpR op_ne (pe_callB (call_rep2 hgd hu) (by rfl) T.repr (by decide +kernel) (pa_cons (pe_call To.ok hr7 (by rfl) To.at_ To.kp To.bi .nil pass0 (pa_cons (pv 9) (pa_cons (pv 8) (pa_cons (pv 11) pa_nil)))) pa_nil)) (pe_callB (call_rep2 hgd hu) (by rfl) T.repr (by decide +kernel) (pa_cons (pe_call Du.ok hr2 (by rfl) Du.at_ Du.kp Du.bi .nil pass0 (pa_cons (pv 5) (pa_cons (pv 7) (pa_cons (pv 4) (pa_cons (pv 6) (pa_cons (pv 11) pa_nil)))))) pa_nil)) (nomark _))
            (pss_one (ps_ret pe_bl))
            pss_nil))))))
      (pss_cons (ps_setLc (i := 12) (own := [("at", 13), ("pace", 14)]) (g := gTup K 2 (gCons (gName 13) (gCons (gName 14) gNil))) rfl scFits.nd rfl rfl (sw_true rfl rfl rfl (by decide +kernel)) (pi_list (pv 6))
          (blkOk_by (N := ["well", "size", "way", "other", "paces", "twins", "marks", "pairs", "made", "twin", "turn", "sign", "real", "at", "pace"]) (sc := defScope sFits) (by decide +kernel)) (fun _ _ _ _ _ => pg_tup rfl (pgs_cons (pg_name (i := 13) scFits.nd rfl (.inl rfl)) (pgs_cons (pg_name (i := 14) scFits.nd rfl (.inl rfl)) pgs_nil))) (fun _ _ _ _ _ => pts_one ((pt_cmpR op_ne (pe_ix (r := rIxL K) ix_list (pv 4) (pe_op op_mod (pe_callTy call_int1 (by rfl) T.int (by decide +kernel) (pa_cons (pv 13) pa_nil)) (pv 1)) (fun _ _ => rfl)) (pv 14) (nomark _))))
          (fun _ _ _ _ _ => (pe_tup (pa_cons (pv 13) (pa_cons (pv 14) pa_nil)))))
      (pss_cons (ps_if (pt_cmpR op_ne (pe_callB (call_rep2 hgd hu) (by rfl) T.repr (by decide +kernel) (pa_cons (pe_lst (pa_cons (pe_prop (pv 8) Z.cl W1.of W1.ok hr2 W1.bi .nil pass0 rfl) (pa_cons (pe_prop (pv 8) Z.cl W2.of W2.ok hr2 W2.bi .nil pass0 rfl) (pa_cons (pe_prop (pv 8) Z.cl W3.of W3.ok hr2 W3.bi .nil pass0 rfl) pa_nil)))) pa_nil)) (pe_callB (call_rep2 hgd hu) (by rfl) T.repr (by decide +kernel) (pa_cons (pe_lst (pa_cons (pv 1) (pa_cons (pv 4) (pa_cons (pv 12) pa_nil)))) pa_nil)) (nomark _))
        (pss_one (ps_ret pe_bl))
        pss_nil)
      (pss_cons (ps_setLc (i := 12) (own := [("at", 13), ("pace", 14)]) (g := gTup K 2 (gCons (gName 13) (gCons (gName 14) gNil))) rfl scFits.nd rfl rfl (sw_true rfl rfl rfl (by decide +kernel)) (pi_list (pv 7))
          (blkOk_by (N := ["well", "size", "way", "other", "paces", "twins", "marks", "pairs", "made", "twin", "turn", "sign", "real", "at", "pace"]) (sc := defScope sFits) (by decide +kernel)) (fun _ _ _ _ _ => pg_tup rfl (pgs_cons (pg_name (i := 13) scFits.nd rfl (.inl rfl)) (pgs_cons (pg_name (i := 14) scFits.nd rfl (.inl rfl)) pgs_nil))) (fun _ _ _ _ _ => pts_one ((pt_cmpR op_ne (pe_ix (r := rIxL K) ix_list (pv 5) (pe_op op_mod (pe_callTy call_int1 (by rfl) T.int (by decide +kernel) (pa_cons (pv 13) pa_nil)) (pv 3)) (fun _ _ => rfl)) (pv 14) (nomark _))))
          (fun _ _ _ _ _ => (pe_tup (pa_cons (pv 13) (pa_cons (pv 14) pa_nil)))))
      (pss_one (ps_ret (pe_cmpR op_eq (pe_callB (call_rep2 hgd hu) (by rfl) T.repr (by decide +kernel) (pa_cons (pe_lst (pa_cons (pe_prop (pv 9) Z.cl W1.of W1.ok hr2 W1.bi .nil pass0 rfl) (pa_cons (pe_prop (pv 9) Z.cl W2.of W2.ok hr2 W2.bi .nil pass0 rfl) (pa_cons (pe_prop (pv 9) Z.cl W3.of W3.ok hr2 W3.bi .nil pass0 rfl) pa_nil)))) pa_nil)) (pe_callB (call_rep2 hgd hu) (by rfl) T.repr (by decide +kernel) (pa_cons (pe_lst (pa_cons (pv 3) (pa_cons (pv 5) (pa_cons (pv 12) pa_nil)))) pa_nil)) (nomark _)))))))))))))), ?_⟩
    refine ⟨_, rfl, ⟨_, _, _, rfl, hW, (by omega), (by decide), (by decide), fun z H1 z0 z1 f1 w1 => ⟨_, _, rfl, rfl, ?_⟩⟩⟩
    refine ⟨_, rfl, ⟨_, _, _, rfl, w1, (by omega), (by decide), (by decide), fun way H2 v0 v1 f2 w2 => ?_⟩⟩
    refine ⟨(by show 2 ≤ sizeLine; decide), fun t0 nt0 => ⟨t0, _, rfl, .inl (.inl upd_same), rfl, _, _, rfl, _, [], rfl, rfl, ?_⟩⟩
    have w2' := w2.new (o := .tup [.int (1 + z), .int way]) nt0
    have f02 : Fr p H _ := (f1.trans f2).trans (Fr.new (o := .tup [.int (1 + z), .int way]) nt0)
    generalize upd H2 t0 (.tup [.int (1 + z), .int way]) = H2' at w2' f02
    refine ⟨_, rfl, fun σ J => ∃ o : Int, σ = [some (.ref p), some (.int (1 + z)), some (.int way), some (.int (1 + o)), none, none, none, none, none, none, none, none, none, none, none] ∧ 0 ≤ o ∧ o < 12 ∧ Fr p H J ∧ Well J p (n + 10), ?_, ?_⟩
    · refine ⟨_, rfl, rfl, _, rfl, ite2 (fun _ => ?_) (fun _ => ?_)⟩
      · exact ⟨_, rfl, ⟨_, _, _, rfl, w2', (by omega), (by decide), (by decide), fun o H3 o0 o1 f3 w3 => ⟨_, _, rfl, rfl, o, rfl, o0, o1, f02.trans f3, w3.mono (by omega)⟩⟩⟩
      · exact ⟨z, rfl, z0, z1, f02, w2'.mono (by omega)⟩
    clear w2' f02
    rintro σ H2' ⟨o, rfl, o0, o1, f02, w2'⟩
    refine ⟨_, rfl, _, rfl, ⟨p, _, _, rfl, w2', by omega, by omega, by omega, fun aP ps H3 hp pl nP nPp h3 f3 w3 => ?_⟩⟩
    refine ⟨_, rfl, _, rfl, ⟨p, _, _, rfl, w3, by omega, by omega, by omega, fun aT qs H4 hq ql nT nTp h4 f4 w4 => ?_⟩⟩
    refine ⟨(by show 2 ≤ sizeLine; decide), fun t1 nt1 => ⟨t1, _, rfl, .inl (.inl upd_same), rfl, _, _, rfl, _, [], rfl, rfl, ?_⟩⟩
    have w4' := w4.new (o := .tup [.ref aP, .ref aT]) nt1
    have sT := same_new (o := .tup [.ref aP, .ref aT]) nt1
    have h4' := sT _ _ h4
    have f24 : Fr p H2' _ := (f3.trans f4).trans (Fr.of sT)
    have h3' := sT _ _ (f4 _ _ h3 nPp)
    generalize upd H4 t1 (.tup [.ref aP, .ref aT]) = H4' at w4' f24 h3' h4'
    refine ⟨_, rfl, _, rfl, ⟨p, _, _, _, rfl, w4', by omega, by omega, by omega, by decide, by decide, fun aM ts ms Hm hm nM nMp hM0 tp0 nts f5 w5 => ?_⟩⟩
    refine ⟨_, rfl, _, rfl, ⟨p, _, _, _, rfl, w5, by omega, by omega, by omega, by decide, by decide, fun aN0 us0 ns0 H5 hn0 nN0 nN0p h60 up0 nus f6 w6' => ⟨_, _, rfl, ?_⟩⟩⟩
    have f05 : Fr p H H5 := ((f02.trans f24).trans f5).trans f6
    have hP := f6 _ _ (f5 _ _ h3' nPp) nPp
    have hT := f6 _ _ (f5 _ _ h4' nTp) nTp
    have h5 := f6 _ _ hM0 nMp
    have tp := tp0.fr w5 f6
    have ml0 := hm.len
    have nl0 := hn0.len
    have tl := tp.len
    have pl0 := hp.len0
    have ql0 := hq.len0
    refine ⟨fun σ J => ∃ (aN : Addr) (us : List Addr) (ns : List (Int × Int)), σ = [some (.ref p), some (.int (1 + z)), some (.int way), some (.int (1 + o)), some (.ref aP), some (.ref aT), some (.ref aM), some (.ref aN), none, none, none, none, none, none, none] ∧ J aN = some (.lst (us.map V.ref)) ∧ Tups J us ns ∧ Marks 3 ns ∧ Fr p H5 J ∧ Well J p (n + 110), ?_, ?_⟩
    · refine ⟨_, rfl, ⟨_, _, _, rfl, w6', (by omega), (by decide), (by decide), fun tk H6 k0 k1 f7 w7 => ⟨rfl, _, rfl, ite2 (fun _ => ?_) (fun _ => ?_)⟩⟩⟩
      · have h57 := f7 _ _ h5 nMp
        have tp7 := tp.fr w6' f7
        refine ⟨_, rfl, aM, rfl, ⟨_, SqL.of h57⟩, fun D hD => ?_⟩
        have Dp' : D ≠ p := (w7.ne hD).symm
        refine lc_list (K := K) (a := aM) (xs := ts.map V.ref) (fun i J => ∃ (us : List Addr) (ns : List (Int × Int)), J D = some (.lst (us.map V.ref)) ∧ Tups J us ns ∧ ns.map (·.1) = (ms.take i).map (·.1) ∧ (∀ m ∈ ns, 0 ≤ m.2 ∧ m.2 ≤ 3) ∧ Fr p H6 J ∧ Well J p (n + 100 + i))
          ⟨[], [], upd_same, trivial, rfl, fun m hm => absurd hm List.not_mem_nil, Fr.new hD, (w7.new hD).mono (by omega)⟩ (fun i J _ ⟨_, _, _, _, _, _, g, _⟩ => SqL.of (g _ _ h57 nMp)) ?_ ?_
        · rintro i y J hi ⟨us, ns, hJ, hus, key, val, fJ, wJ⟩
          have hi' : i < ts.length := by
            have := (List.getElem?_eq_some_iff.mp hi).1
            simpa using this
          rw [List.getElem?_map, List.getElem?_eq_getElem hi'] at hi
          obtain rfl := Option.some.inj hi
          obtain ⟨m, hm', hm2⟩ := (tp7.fr w7 fJ).get (List.getElem?_eq_getElem hi')
          have et : ms.take (i + 1) = ms.take i ++ [m] := by rw [List.take_add_one, hm']; rfl
          have il : i < ms.length := by omega
          refine ⟨_, _, rfl, .inl (.inl hm2), rfl, _, _, rfl, _, [], rfl, rfl, rfl, ?_⟩
          refine ⟨_, rfl, _, rfl, ⟨_, _, _, rfl, wJ, (by omega), (by decide), (by decide), fun v J2 v0 v1 f8 w8 => ⟨(by show 2 ≤ sizeLine; decide), fun u nu => ?_⟩⟩⟩
          have gu := same_new (o := .tup [.int m.1, .int v]) nu
          have hJ2 := gu _ _ (f8 _ _ hJ Dp')
          have ul := hus.len
          have kl : ns.length = i := by
            have := congrArg List.length key
            rw [List.length_map, List.length_map, List.length_take] at this
            omega
          refine ⟨_, hJ2, by rw [List.length_map]; exact small1000 (by omega), us ++ [u], ns ++ [(m.1, v)], ?_, ?_, ?_, ?_, Fr.put hD ((fJ.trans f8).trans (Fr.of gu)), (((w8.same gu).upd_ne Dp'.symm).mono (by omega))⟩
          · rw [upd_same, List.map_append]
            rfl
          · exact (((hus.fr wJ f8).same gu).snoc (m := (m.1, v)) upd_same).put hJ2
          · rw [et, List.map_append, List.map_append, key]
            rfl
          · intro m' hm9
            rcases List.mem_append.mp hm9 with g | g
            · exact val m' g
            · rw [List.mem_singleton.mp g]
              exact ⟨v0, by show v ≤ 3; omega⟩
        · rintro J ⟨us, ns, hJ, hus, key, val, fJ, wJ⟩
          rw [List.length_map, tl, List.take_length] at key
          have kl : ns.length = ms.length := by
            have := congrArg List.length key
            rw [List.length_map, List.length_map] at this
            exact this
          refine ⟨D, us, ns, rfl, hJ, hus, ⟨?_, val, fun m hm9 => ?_, by omega⟩, f7.trans fJ, wJ.mono (by rw [List.length_map]; omega)⟩
          · have a := List.pairwise_map.mpr (show ms.Pairwise fun a b => a.1 < b.1 from hm.asc)
            rw [← key] at a
            exact List.pairwise_map.mp a
          · have : m.1 ∈ ms.map (·.1) := by rw [← key]; exact List.mem_map.mpr ⟨m, hm9, rfl⟩
            obtain ⟨m2, h2, e2⟩ := List.mem_map.mp this
            rw [← e2]
            exact hm.big m2 h2
      · exact ⟨aN0, us0, ns0, rfl, f7 _ _ h60 nN0p, up0.fr w6' f7, hn0, f7, w7.mono (by omega)⟩
    clear h60 up0 nus hn0 nN0 nN0p nl0
    rintro σ H6 ⟨aN, us, ns, rfl, hN, up, hn2, f7, w7⟩
    replace hP := f7 _ _ hP nPp
    replace hT := f7 _ _ hT nTp
    replace h5 := f7 _ _ h5 nMp
    replace tp := tp.fr w6' f7
    have f06 := f05.trans f7
    clear f05 f7 w6' f6 w5 f5 hM0 tp0 h3' h4' nts
    have nl0 := hn2.len
    have ul := up.len
    have fit := hm.fit5 (by decide)
    have fit2 := hn2.fit5 (by decide)
    -- made and twin
    refine ⟨_, rfl, aP, _, rfl, .inl (SqL.of hP), fun q1 nq1 => ?_⟩
    have s1 := same_new (o := .lst (ps.map V.int)) nq1
    refine ⟨_, rfl, aM, _, rfl, .inl (SqL.of (s1 _ _ h5)), fun q2 nq2 => ?_⟩
    have s2 := s1.trans (same_new (o := .lst (ts.map V.ref)) nq2)
    have hq1 := (same_new (o := .lst (ts.map V.ref)) nq2) _ _ (upd_same (H := H6) (a := q1) (o := .lst (ps.map V.int)))
    refine fun x dx nx ndx _ => made_ok rfl nx ndx hq1 upd_same (tp.same s2) hp fit fun H7 l d cal nl nd s3 => ⟨rfl, ?_⟩
    have s67 := s2.trans s3
    refine ⟨_, rfl, aT, _, rfl, .inl (SqL.of (s67 _ _ hT)), fun q3 nq3 => ?_⟩
    have s4 := same_new (o := .lst (qs.map V.int)) nq3
    refine ⟨_, rfl, aN, _, rfl, .inl (SqL.of (s4 _ _ (s67 _ _ hN))), fun q4 nq4 => ?_⟩
    have s5 := s4.trans (same_new (o := .lst (us.map V.ref)) nq4)
    have hq3 := (same_new (o := .lst (us.map V.ref)) nq4) _ _ (upd_same (H := H7) (a := q3) (o := .lst (qs.map V.int)))
    refine fun y dy ny ndy _ => made_ok rfl ny ndy hq3 upd_same (up.same (s67.trans s5)) hq fit2 fun H8 l' d' cal2 nl2 nd2 s6 => ⟨rfl, _, _, rfl, ?_⟩
    have s78 := s5.trans s6
    have s68 := s67.trans s78
    replace cal := cal.same s78
    replace hP := s68 _ _ hP
    replace hT := s68 _ _ hT
    replace h5 := s68 _ _ h5
    replace hN := s68 _ _ hN
    replace tp := tp.same s68
    replace up := up.same s68
    have f08 := f06.trans (Fr.of s68)
    have w8 := w7.same s68
    clear s68 s78 s6 s5 s4 s67 s3 s2 s1 f06 w7 hq3 hq1 nq1 nq2 nq3 nq4 nl nd nl2 nd2 nx ndx ny ndy
    have km : ∀ m ∈ ms, -10 ^ 40 < m.1 ∧ m.1 < 10 ^ 40 := fun m h9 => by have := hm.big m h9; omega
    have kn : ∀ m ∈ ns, -10 ^ 40 < m.1 ∧ m.1 < 10 ^ 40 := fun m h9 => by have := hn2.big m h9; omega
    -- the turns
    refine ⟨2, rfl, by decide, by decide, for_range (lo := 0) (n := 2) (fun i σ J => ∃ y10 y11 : Option V, σ = [some (.ref p), some (.int (1 + z)), some (.int way), some (.int (1 + o)), some (.ref aP), some (.ref aT), some (.ref aM), some (.ref aN), some (.ref x), some (.ref y), y10, y11, none, none, none] ∧ Same H8 J) ⟨none, none, rfl, Same.refl H8⟩ ?_ ?_⟩
    · rintro i σ J hi ⟨y10, y11, rfl, sJ⟩
      refine ⟨2, rfl, by decide, by decide, for_range (lo := 0) (n := 2) (fun j σ J2 => ∃ y11 : Option V, σ = [some (.ref p), some (.int (1 + z)), some (.int way), some (.int (1 + o)), some (.ref aP), some (.ref aT), some (.ref aM), some (.ref aN), some (.ref x), some (.ref y), some (.int (0 + (i : Nat))), y11, none, none, none] ∧ Same H8 J2) ⟨y11, rfl, sJ⟩ ?_ ?_⟩
      · rintro j σ J2 hj ⟨y11, rfl, SX⟩
        generalize (0 + (j : Nat) : Int) = sgv
        refine ⟨_, rfl, _, rfl, _, rfl, ⟨x, y, _, _, _, _, ps, qs, realOf ps ms, realOf qs ns, sgv, rfl, cal.same SX, cal2.same SX, hp, hq, realFit fit, realFit fit2, (by have := List.length_filter_le (fun m => decide (m.2 ≠ paceOf ps m.1)) ms; have := List.length_filter_le (fun m => decide (m.2 ≠ paceOf qs m.1)) ns; show (realOf ps ms).length + (realOf qs ns).length ≤ 60; unfold realOf; omega), fun DD1 qq1 J1 td1 ss1 dp1 => ?_⟩⟩
        have rD := rp_toldD (mxnF sgv) hp hq (realFit (ps := ps) fit) (realFit (ps := qs) fit2) (by have := List.length_filter_le (fun m => decide (m.2 ≠ paceOf ps m.1)) ms; have := List.length_filter_le (fun m => decide (m.2 ≠ paceOf qs m.1)) ns; show (realOf ps ms).length + (realOf qs ns).length ≤ 60; unfold realOf; omega) (fun m hm => km m (List.mem_filter.mp hm).1) (fun m hm => kn m (List.mem_filter.mp hm).1) td1
        refine ⟨qq1, DD1, 1000, 40, rfl, dp1, rD, by decide, by decide, ?_⟩
        have SY := SX.trans ss1
        refine ⟨_, rfl, _, rfl, _, rfl, _, rfl, _, rfl, ⟨aP, aM, aT, aN, ps, qs, ts, us, ms, ns, sgv, rfl, SY _ _ hP, SY _ _ h5, tp.same SY, SY _ _ hT, SY _ _ hN, up.same SY, hp, hq, (by omega), fun DD2 qq2 J2 td2 ss2 dp2 => ?_⟩⟩
        obtain rfl := ToldD.two (mxnF sgv) hp hq fit fit2 (by omega) td1 td2
        refine ⟨qq2, DD1, 1000, 40, rfl, dp2, rD, by decide, by decide, rfl, _, rfl, ?_⟩
        rw [decide_eq_true rfl]
        refine ite2 (fun g => absurd g (by decide)) (fun _ => ?_)
        replace SX := SY.trans ss2
        clear SY ss1 ss2 dp1 dp2 td1 td2 rD DD1
        refine ⟨_, rfl, _, rfl, _, rfl, ⟨y, x, _, _, _, _, qs, ps, realOf qs ns, realOf ps ms, sgv, rfl, cal2.same SX, cal.same SX, hq, hp, realFit fit2, realFit fit, (by have := List.length_filter_le (fun m => decide (m.2 ≠ paceOf qs m.1)) ns; have := List.length_filter_le (fun m => decide (m.2 ≠ paceOf ps m.1)) ms; show (realOf qs ns).length + (realOf ps ms).length ≤ 60; unfold realOf; omega), fun DD1 qq1 J1 td1 ss1 dp1 => ?_⟩⟩
        have rD := rp_toldD (mxnF sgv) hq hp (realFit (ps := qs) fit2) (realFit (ps := ps) fit) (by have := List.length_filter_le (fun m => decide (m.2 ≠ paceOf qs m.1)) ns; have := List.length_filter_le (fun m => decide (m.2 ≠ paceOf ps m.1)) ms; show (realOf qs ns).length + (realOf ps ms).length ≤ 60; unfold realOf; omega) (fun m hm => kn m (List.mem_filter.mp hm).1) (fun m hm => km m (List.mem_filter.mp hm).1) td1
        refine ⟨qq1, DD1, 1000, 40, rfl, dp1, rD, by decide, by decide, ?_⟩
        have SY := SX.trans ss1
        refine ⟨_, rfl, _, rfl, _, rfl, _, rfl, _, rfl, ⟨aT, aN, aP, aM, qs, ps, us, ts, ns, ms, sgv, rfl, SY _ _ hT, SY _ _ hN, up.same SY, SY _ _ hP, SY _ _ h5, tp.same SY, hq, hp, (by omega), fun DD2 qq2 J2 td2 ss2 dp2 => ?_⟩⟩
        obtain rfl := ToldD.two (mxnF sgv) hq hp fit2 fit (by omega) td1 td2
        refine ⟨qq2, DD1, 1000, 40, rfl, dp2, rD, by decide, by decide, rfl, _, rfl, ?_⟩
        rw [decide_eq_true rfl]
        refine ite2 (fun g => absurd g (by decide)) (fun _ => ?_)
        exact ⟨_, rfl, SY.trans ss2⟩
      · rintro σ J2 ⟨y11, rfl, sX⟩
        exact ⟨_, _, rfl, sX⟩
    rintro σ H9 ⟨y10, y11, rfl, s89⟩

    refine ⟨_, rfl, aM, rfl, ⟨_, SqL.of (s89 _ _ h5)⟩, fun D hD => lc_list (K := K) (a := aM) (xs := ts.map V.ref) (fun i J => ∃ vs : List Addr, J D = some (.lst (vs.map V.ref)) ∧ Tups J vs (realOf ps (ms.take i)) ∧ Same H9 J)
      ⟨[], upd_same, trivial, same_new hD⟩ (fun i J _ ⟨_, _, _, g⟩ => SqL.of (g _ _ (s89 _ _ h5))) ?_ ?_⟩
    · rintro i y J hi ⟨vs, hJ, hvs, sJ⟩
      have hi' : i < ts.length := by
        have := (List.getElem?_eq_some_iff.mp hi).1
        simpa using this
      rw [List.getElem?_map, List.getElem?_eq_getElem hi'] at hi
      obtain rfl := Option.some.inj hi
      obtain ⟨m, hm', hm2⟩ := (tp.same (s89.trans sJ)).get (List.getElem?_eq_getElem hi')
      have et : ms.take (i + 1) = ms.take i ++ [m] := by rw [List.take_add_one, hm']; rfl
      have ha' : SqL K J aP (ps.map V.int) := SqL.of (sJ _ _ (s89 _ _ hP))
      refine ⟨_, _, rfl, .inl (.inl hm2), rfl, _, _, rfl, _, [], rfl, rfl, rfl, ?_⟩
      refine ⟨_, rfl, _, rfl, .inl ⟨_, rfl, _, rfl, _, _, rfl, rfl, (by show 0 < 1 + z; omega), aP, _, _, _, rfl, rfl, ha', (by have := atI_pace (ps := ps) (t := m.1) pl0; rw [pl] at this; exact this), _, rfl, rfl, ?_⟩⟩
      have ei : decide (V.int (paceOf ps m.1) = V.int m.2) = decide (m.2 = paceOf ps m.1) := by
        rw [decide_eq_decide]
        exact ⟨fun e => by injection e with e; exact e.symm, fun e => by rw [e]⟩
      rw [ei]
      have sp : realOf ps (ms.take (i + 1)) = realOf ps (ms.take i) ++ realOf ps [m] := by
        rw [et]
        unfold realOf
        rw [List.filter_append]
      by_cases hc : m.2 = paceOf ps m.1
      · rw [decide_eq_true hc]
        refine ⟨false, rfl, vs, hJ, ?_, sJ⟩
        have : realOf ps [m] = [] := by unfold realOf; simp [hc]
        rw [sp, this, List.append_nil]
        exact hvs
      · rw [decide_eq_false hc]
        refine ⟨true, rfl, _, rfl, _, rfl, (by show 2 ≤ sizeLine; decide), fun u nu => ?_⟩
        have gu := same_new (o := .tup [.int m.1, .int m.2]) nu
        have vl := hvs.len
        have vl2 : (realOf ps (ms.take i)).length ≤ 60 := Nat.le_trans (List.length_filter_le _ _) (by rw [List.length_take]; omega)
        refine ⟨_, gu _ _ hJ, by rw [List.length_map]; exact small1000 (by omega), vs ++ [u], ?_, ?_, fun c o e => ?_⟩
        · rw [upd_same, List.map_append]
          rfl
        · have : realOf ps [m] = [m] := by unfold realOf; simp [hc]
          rw [sp, this]
          exact ((hvs.same gu).snoc (m := m) upd_same).put (gu _ _ hJ)
        · rw [upd_ne (ne_of_none e hD)]
          exact gu _ _ (sJ c o e)
    rintro HA ⟨vsps, hVps, hvsps, sVps⟩
    rw [List.length_map, tl, List.take_length] at hvsps
    have t1 := s89.trans sVps
    have rI : Rp (dInts ps) 12 1 := (rp_ints fun v hv => by have := hp.lo v hv; omega).mono hp.len1 (Nat.le_refl _)
    have rJ : Rp (dInts qs) 12 1 := (rp_ints fun v hv => by have := hq.lo v hv; omega).mono hq.len1 (Nat.le_refl _)
    have rA : Rp (dMarks (realOf ps ms)) 9 2 := (rp_marks fun m h9 => by have h8 := (List.mem_filter.mp h9).1; have := km m h8; have := hm.val m h8; omega).mono (by have := List.length_filter_le (fun m => decide (m.2 ≠ paceOf ps m.1)) ms; show (realOf ps ms).length * 3 ≤ 9; unfold realOf; omega) (Nat.le_refl _)
    have rB : Rp (dMarks (realOf qs ns)) 9 2 := (rp_marks fun m h9 => by have h8 := (List.mem_filter.mp h9).1; have := kn m h8; have := hn2.val m h8; omega).mono (by have := List.length_filter_le (fun m => decide (m.2 ≠ paceOf qs m.1)) ns; show (realOf qs ns).length * 3 ≤ 9; unfold realOf; omega) (Nat.le_refl _)
    have c9 := cal.same t1
    obtain ⟨ox, hx⟩ := c9.ob
    refine ⟨_, rfl, x, ox, _, rfl, hx, ⟨x, l, d, ps, _, rfl, c9, ?_⟩⟩
    refine ⟨_, rfl, x, ox, _, rfl, hx, ⟨x, l, d, ps, _, rfl, c9, fun g1 m1 => ?_⟩⟩
    have e1 := same_new (o := .lst (ps.map V.int)) m1
    refine ⟨_, rfl, x, ox, _, rfl, e1 _ _ hx, ⟨x, l, d, ps, _, rfl, c9.same e1, fun HX g2 vs2 e2 m2 _ _ h2 up2 => ⟨(by show 3 ≤ sizeLine; decide), fun g3 m3 => ?_⟩⟩⟩
    have e3 := same_new (o := .lst [V.int (ps.length : Nat), .ref g1, .ref g2]) m3
    have rT : Rp (PyData.list [PyData.int (ps.length : Nat), dInts ps, dMarks (realOf ps ms)]) 100 10 := (Rp.list (.cons (Rp.int (by omega) (by omega)) (.cons rI (.cons rA .nil)))).mono (by omega) (by omega)
    refine ⟨g3, _, 100, 10, rfl, .lst (SqL.of upd_same) (.cons (.int _) (.cons (dp_ints (SqL.of (e3 _ _ (e2 _ _ upd_same)))) (.cons (dp_marks (SqL.of (e3 _ _ h2)) (up2.same e3)) .nil))), rT, by decide, by decide, ?_⟩
    have T2 := (e1.trans e2).trans e3
    refine ⟨_, rfl, _, rfl, _, rfl, (by show 3 ≤ sizeLine; decide), fun g4 m4 => ?_⟩
    have e4 := same_new (o := .lst [V.int (1 + z), .ref aP, .ref D]) m4
    have T3 := T2.trans e4
    have eS : (1 + z : Int) = (ps.length : Nat) := pl.symm
    refine ⟨g4, PyData.list [PyData.int (ps.length : Nat), dInts ps, dMarks (realOf ps ms)], 100, 10, rfl, .lst (SqL.of upd_same) (.cons (by rw [eS]; exact Dp.int _) (.cons (dp_ints (SqL.of (T3 _ _ (t1 _ _ hP)))) (.cons (dp_marks (SqL.of (T3 _ _ hVps)) (hvsps.same T3)) .nil))), rT, by decide, by decide, rfl, _, rfl, ?_⟩
    rw [decide_eq_true rfl]
    refine ite2 (fun g => absurd g (by decide)) (fun _ => ?_)
    have s9A := t1.trans T3
    generalize upd (upd HX g3 (.lst [V.int (ps.length : Nat), .ref g1, .ref g2])) g4 (.lst [V.int (1 + z), .ref aP, .ref D]) = HB at s9A ⊢

    refine ⟨_, rfl, aN, rfl, ⟨_, SqL.of (s9A _ _ hN)⟩, fun D hD => lc_list (K := K) (a := aN) (xs := us.map V.ref) (fun i J => ∃ vs : List Addr, J D = some (.lst (vs.map V.ref)) ∧ Tups J vs (realOf qs (ns.take i)) ∧ Same HB J)
      ⟨[], upd_same, trivial, same_new hD⟩ (fun i J _ ⟨_, _, _, g⟩ => SqL.of (g _ _ (s9A _ _ hN))) ?_ ?_⟩
    · rintro i y J hi ⟨vs, hJ, hvs, sJ⟩
      have hi' : i < us.length := by
        have := (List.getElem?_eq_some_iff.mp hi).1
        simpa using this
      rw [List.getElem?_map, List.getElem?_eq_getElem hi'] at hi
      obtain rfl := Option.some.inj hi
      obtain ⟨m, hm', hm2⟩ := (up.same (s9A.trans sJ)).get (List.getElem?_eq_getElem hi')
      have et : ns.take (i + 1) = ns.take i ++ [m] := by rw [List.take_add_one, hm']; rfl
      have ha' : SqL K J aT (qs.map V.int) := SqL.of (sJ _ _ (s9A _ _ hT))
      refine ⟨_, _, rfl, .inl (.inl hm2), rfl, _, _, rfl, _, [], rfl, rfl, rfl, ?_⟩
      refine ⟨_, rfl, _, rfl, .inl ⟨_, rfl, _, rfl, _, _, rfl, rfl, (by show 0 < 1 + o; omega), aT, _, _, _, rfl, rfl, ha', (by have := atI_pace (ps := qs) (t := m.1) ql0; rw [ql] at this; exact this), _, rfl, rfl, ?_⟩⟩
      have ei : decide (V.int (paceOf qs m.1) = V.int m.2) = decide (m.2 = paceOf qs m.1) := by
        rw [decide_eq_decide]
        exact ⟨fun e => by injection e with e; exact e.symm, fun e => by rw [e]⟩
      rw [ei]
      have sp : realOf qs (ns.take (i + 1)) = realOf qs (ns.take i) ++ realOf qs [m] := by
        rw [et]
        unfold realOf
        rw [List.filter_append]
      by_cases hc : m.2 = paceOf qs m.1
      · rw [decide_eq_true hc]
        refine ⟨false, rfl, vs, hJ, ?_, sJ⟩
        have : realOf qs [m] = [] := by unfold realOf; simp [hc]
        rw [sp, this, List.append_nil]
        exact hvs
      · rw [decide_eq_false hc]
        refine ⟨true, rfl, _, rfl, _, rfl, (by show 2 ≤ sizeLine; decide), fun u nu => ?_⟩
        have gu := same_new (o := .tup [.int m.1, .int m.2]) nu
        have vl := hvs.len
        have vl2 : (realOf qs (ns.take i)).length ≤ 60 := Nat.le_trans (List.length_filter_le _ _) (by rw [List.length_take]; omega)
        refine ⟨_, gu _ _ hJ, by rw [List.length_map]; exact small1000 (by omega), vs ++ [u], ?_, ?_, fun c o e => ?_⟩
        · rw [upd_same, List.map_append]
          rfl
        · have : realOf qs [m] = [m] := by unfold realOf; simp [hc]
          rw [sp, this]
          exact ((hvs.same gu).snoc (m := m) upd_same).put (gu _ _ hJ)
        · rw [upd_ne (ne_of_none e hD)]
          exact gu _ _ (sJ c o e)
    rintro HC ⟨vsqs, hVqs, hvsqs, sVqs⟩
    rw [List.length_map, ul, List.take_length] at hvsqs
    have t2 := s9A.trans sVqs
    have c9 := cal2.same t2
    obtain ⟨ox, hx⟩ := c9.ob
    refine ⟨_, rfl, y, ox, _, rfl, hx, ⟨y, l', d', qs, _, rfl, c9, ?_⟩⟩
    refine ⟨_, rfl, y, ox, _, rfl, hx, ⟨y, l', d', qs, _, rfl, c9, fun g1 m1 => ?_⟩⟩
    have e1 := same_new (o := .lst (qs.map V.int)) m1
    refine ⟨_, rfl, y, ox, _, rfl, e1 _ _ hx, ⟨y, l', d', qs, _, rfl, c9.same e1, fun HX g2 vs2 e2 m2 _ _ h2 up2 => ⟨(by show 3 ≤ sizeLine; decide), fun g3 m3 => ?_⟩⟩⟩
    have e3 := same_new (o := .lst [V.int (qs.length : Nat), .ref g1, .ref g2]) m3
    have rT : Rp (PyData.list [PyData.int (qs.length : Nat), dInts qs, dMarks (realOf qs ns)]) 100 10 := (Rp.list (.cons (Rp.int (by omega) (by omega)) (.cons rJ (.cons rB .nil)))).mono (by omega) (by omega)
    refine ⟨g3, _, 100, 10, rfl, .lst (SqL.of upd_same) (.cons (.int _) (.cons (dp_ints (SqL.of (e3 _ _ (e2 _ _ upd_same)))) (.cons (dp_marks (SqL.of (e3 _ _ h2)) (up2.same e3)) .nil))), rT, by decide, by decide, ?_⟩
    have T2 := (e1.trans e2).trans e3
    refine ⟨_, rfl, _, rfl, _, rfl, (by show 3 ≤ sizeLine; decide), fun g4 m4 => ?_⟩
    have e4 := same_new (o := .lst [V.int (1 + o), .ref aT, .ref D]) m4
    have T3 := T2.trans e4
    have eS : (1 + o : Int) = (qs.length : Nat) := ql.symm
    refine ⟨g4, PyData.list [PyData.int (qs.length : Nat), dInts qs, dMarks (realOf qs ns)], 100, 10, rfl, .lst (SqL.of upd_same) (.cons (by rw [eS]; exact Dp.int _) (.cons (dp_ints (SqL.of (T3 _ _ (t2 _ _ hT)))) (.cons (dp_marks (SqL.of (T3 _ _ hVqs)) (hvsqs.same T3)) .nil))), rT, by decide, by decide, rfl, ?_⟩
    rw [decide_eq_true rfl]
    have sZ := t2.trans T3
    exact k _ (f08.trans (Fr.of sZ)) ((w8.same sZ).mono (by omega))
end

theorem kit_eq {K : PySem.W.Frag} {D : Addr} : PySem.W.kitOne K (.ref D) (.ref D) = some true := if_pos (beq_self_eq_true _)
theorem kit_ne {K : PySem.W.Frag} {D C : Addr} (h : PySem.W.subIn K (.ref D) (.ref C) = some false) (hD : PySem.W.subIn K (.ref D) (.ref D) = some true) (hd : PySem.W.hasDictIn K C = true) (ht : PySem.W.typeIn K (.ref C) = some (.type "type")) : PySem.W.kitOne K (.ref D) (.ref C) = some false := by
  have ne : D ≠ C := fun e => by
    subst e
    rw [h] at hD
    cases hD
  have n2 : ¬ (Value.ref D == Value.ref C) = true := fun q => ne (Value.ref.inj (beq_iff_eq.mp q))
  obtain ⟨cd, hc, _⟩ := PySem.W.any_some hd
  have e2 : ((PySem.W.clsIn K C).isSome && PySem.W.typeIn K (.ref C) == some (.type "type")) = true := by rw [hc, ht] <;> rfl
  show (if (Value.ref D == Value.ref C) = true then some true else PySem.W.kitCls K (.ref D) (.ref C)) = some false
  rw [if_neg n2]
  show (if ((PySem.W.clsIn K C).isSome && PySem.W.typeIn K (.ref C) == some (.type "type")) = true then PySem.W.subIn K (.ref D) (.ref C) else none) = some false
  rw [if_pos e2]
  exact h
section
theorem all_mk {l : PySem.W.OpenLaw} {w : World} {K : PySem.W.Frag} {h : Heap} {mg : Str → Option Value} {fa C CD CW CS CN CC CU fE f0 f1 f2 f3 f4 f5 f6 f7 f8 f9 f10 f11 f12 f13 f14 f15 f16 f17 f18 f19 f20 f21 f22 f23 f24 p24 f25 p25 f26 p26 : Addr} (X : K.In h) (G : h.Ns mainGlobals mg) (hfa : mg "law" = some (.ref fa))
    {oc0 kV0 dc0 pm0 cd0 ct0 : Value} {od0 an0 : Option Addr} {sl0 : Array (Option Value)}
    {oc1 kV1 dc1 pm1 cd1 ct1 : Value} {od1 an1 : Option Addr} {sl1 : Array (Option Value)}
    {oc2 kV2 dc2 pm2 cd2 ct2 : Value} {od2 an2 : Option Addr} {sl2 : Array (Option Value)}
    {oc3 kV3 dc3 pm3 cd3 ct3 : Value} {od3 an3 : Option Addr} {sl3 : Array (Option Value)}
    {oc4 kV4 dc4 pm4 cd4 ct4 : Value} {od4 an4 : Option Addr} {sl4 : Array (Option Value)}
    {oc5 kV5 dc5 pm5 cd5 ct5 : Value} {od5 an5 : Option Addr} {sl5 : Array (Option Value)}
    {oc6 kV6 dc6 pm6 cd6 ct6 : Value} {od6 an6 : Option Addr} {sl6 : Array (Option Value)}
    {oc7 kV7 dc7 pm7 cd7 ct7 : Value} {od7 an7 : Option Addr} {sl7 : Array (Option Value)}
    {oc8 kV8 dc8 pm8 cd8 ct8 : Value} {od8 an8 : Option Addr} {sl8 : Array (Option Value)}
    {oc9 kV9 dc9 pm9 cd9 ct9 : Value} {od9 an9 : Option Addr} {sl9 : Array (Option Value)}
    {oc10 kV10 dc10 pm10 cd10 ct10 : Value} {od10 an10 : Option Addr} {sl10 : Array (Option Value)}
    {oc11 kV11 dc11 pm11 cd11 ct11 : Value} {od11 an11 : Option Addr} {sl11 : Array (Option Value)}
    {oc12 kV12 dc12 pm12 cd12 ct12 : Value} {od12 an12 : Option Addr} {sl12 : Array (Option Value)}
    {oc13 kV13 dc13 pm13 cd13 ct13 : Value} {od13 an13 : Option Addr} {sl13 : Array (Option Value)}
    {oc14 kV14 dc14 pm14 cd14 ct14 : Value} {od14 an14 : Option Addr} {sl14 : Array (Option Value)}
    {oc15 kV15 dc15 pm15 cd15 ct15 : Value} {od15 an15 : Option Addr} {sl15 : Array (Option Value)}
    {oc16 kV16 dc16 pm16 cd16 ct16 : Value} {od16 an16 : Option Addr} {sl16 : Array (Option Value)}
    {oc17 kV17 dc17 pm17 cd17 ct17 : Value} {od17 an17 : Option Addr} {sl17 : Array (Option Value)}
    {oc18 kV18 dc18 pm18 cd18 ct18 : Value} {od18 an18 : Option Addr} {sl18 : Array (Option Value)}
    {oc19 kV19 dc19 pm19 cd19 ct19 : Value} {od19 an19 : Option Addr} {sl19 : Array (Option Value)}
    {oc20 kV20 dc20 pm20 cd20 ct20 : Value} {od20 an20 : Option Addr} {sl20 : Array (Option Value)}
    {oc21 kV21 dc21 pm21 cd21 ct21 : Value} {od21 an21 : Option Addr} {sl21 : Array (Option Value)}
    {oc22 kV22 dc22 pm22 cd22 ct22 : Value} {od22 an22 : Option Addr} {sl22 : Array (Option Value)}
    {oc23 kV23 dc23 pm23 cd23 ct23 : Value} {od23 an23 : Option Addr} {sl23 : Array (Option Value)}
    {rs24 : List Value}
    {oc24 kV24 dc24 pm24 cd24 ct24 : Value} {od24 an24 : Option Addr} {sl24 : Array (Option Value)}
    {rs25 : List Value}
    {oc25 kV25 dc25 pm25 cd25 ct25 : Value} {od25 an25 : Option Addr} {sl25 : Array (Option Value)}
    {rs26 : List Value}
    {oc26 kV26 dc26 pm26 cd26 ct26 : Value} {od26 an26 : Option Addr} {sl26 : Array (Option Value)}
    {t_GREATEST_WEEK : Tok}
    {t_GREATEST_SPEED : Tok}
    {nm_CW q_CW : Str} {N_CW : Addr} {bs_CW : List Value} {sn_CW : List Str} {sub_CW : List Value} {ab_CW : Bool} {col_CW : Option Bool} {dd_CW : Option Addr} {m0_CW m1_CW m2_CW m3_CW m5_CW : Option Value}
    {nm_CS q_CS : Str} {N_CS : Addr} {bs_CS : List Value} {sn_CS : List Str} {sub_CS : List Value} {ab_CS : Bool} {col_CS : Option Bool} {dd_CS : Option Addr} {m0_CS m1_CS m2_CS m3_CS m5_CS : Option Value}
    {nm_CN q_CN : Str} {N_CN : Addr} {bs_CN : List Value} {sn_CN : List Str} {sub_CN : List Value} {ab_CN : Bool} {col_CN : Option Bool} {dd_CN : Option Addr} {m0_CN m1_CN m2_CN m3_CN m5_CN : Option Value}
    {nm_CC q_CC : Str} {N_CC : Addr} {bs_CC : List Value} {sn_CC : List Str} {sub_CC : List Value} {ab_CC : Bool} {col_CC : Option Bool} {dd_CC : Option Addr} {m0_CC m1_CC m2_CC m3_CC m5_CC : Option Value}
    {nm_CU q_CU : Str} {N_CU : Addr} {bs_CU : List Value} {sn_CU : List Str} {sub_CU : List Value} {ab_CU : Bool} {col_CU : Option Bool} {dd_CU : Option Addr} {m0_CU m1_CU m2_CU m3_CU m5_CU : Option Value}
    {ocE kVE dcE pmE cdE ctE : Value} {odE anE : Option Addr} {slE : Array (Option Value)}
    (aC : PySem.W.nsIn K mainGlobals "Calendar" = some (some (.ref C)))
    (a0 : PySem.W.nsIn K mainGlobals "check_week" = some (some (.ref f0)))
    (l0 : K.lookup f0 = some ⟨oc0, od0, .func (PySem.W.fnOf "check_week" "check_week" (defArgs sChkWeek) (defBody sChkWeek) (defScope sChkWeek) .none kV0 dc0 pm0 an0 cd0 ct0), sl0⟩)
    (c0 : PySem.W.codeIn K cd0 "check_week" = true)
    (k0 : PySem.W.keepIn K (.ref f0) = true)
    (a1 : PySem.W.nsIn K mainGlobals "check_weeks" = some (some (.ref f1)))
    (l1 : K.lookup f1 = some ⟨oc1, od1, .func (PySem.W.fnOf "check_weeks" "check_weeks" (defArgs sWeeks) (defBody sWeeks) (defScope sWeeks) .none kV1 dc1 pm1 an1 cd1 ct1), sl1⟩)
    (c1 : PySem.W.codeIn K cd1 "check_weeks" = true)
    (k1 : PySem.W.keepIn K (.ref f1) = true)
    (a2 : PySem.W.nsIn K mainGlobals "is_behind" = some (some (.ref f2)))
    (l2 : K.lookup f2 = some ⟨oc2, od2, .func (PySem.W.fnOf "is_behind" "is_behind" (defArgs sBehind) (defBody sBehind) (defScope sBehind) .none kV2 dc2 pm2 an2 cd2 ct2), sl2⟩)
    (c2 : PySem.W.codeIn K cd2 "is_behind" = true)
    (k2 : PySem.W.keepIn K (.ref f2) = true)
    (a3 : PySem.W.nsIn K mainGlobals "changed_moments" = some (some (.ref f3)))
    (l3 : K.lookup f3 = some ⟨oc3, od3, .func (PySem.W.fnOf "changed_moments" "changed_moments" (defArgs sChanged) (defBody sChanged) (defScope sChanged) .none kV3 dc3 pm3 an3 cd3 ct3), sl3⟩)
    (c3 : PySem.W.codeIn K cd3 "changed_moments" = true)
    (k3 : PySem.W.keepIn K (.ref f3) = true)
    (a4 : PySem.W.nsIn K mainGlobals "is_speed" = some (some (.ref f4)))
    (l4 : K.lookup f4 = some ⟨oc4, od4, .func (PySem.W.fnOf "is_speed" "is_speed" (defArgs sIsSpeed) (defBody sIsSpeed) (defScope sIsSpeed) .none kV4 dc4 pm4 an4 cd4 ct4), sl4⟩)
    (c4 : PySem.W.codeIn K cd4 "is_speed" = true)
    (k4 : PySem.W.keepIn K (.ref f4) = true)
    (a5 : PySem.W.nsIn K mainGlobals "check_speeds" = some (some (.ref f5)))
    (l5 : K.lookup f5 = some ⟨oc5, od5, .func (PySem.W.fnOf "check_speeds" "check_speeds" (defArgs sChkSpeeds) (defBody sChkSpeeds) (defScope sChkSpeeds) .none kV5 dc5 pm5 an5 cd5 ct5), sl5⟩)
    (c5 : PySem.W.codeIn K cd5 "check_speeds" = true)
    (k5 : PySem.W.keepIn K (.ref f5) = true)
    (a6 : PySem.W.nsIn K mainGlobals "check_changes" = some (some (.ref f6)))
    (l6 : K.lookup f6 = some ⟨oc6, od6, .func (PySem.W.fnOf "check_changes" "check_changes" (defArgs sChkChanges) (defBody sChkChanges) (defScope sChkChanges) .none kV6 dc6 pm6 an6 cd6 ct6), sl6⟩)
    (c6 : PySem.W.codeIn K cd6 "check_changes" = true)
    (k6 : PySem.W.keepIn K (.ref f6) = true)
    (a7 : PySem.W.nsIn K mainGlobals "speed_pairs" = some (some (.ref f7)))
    (l7 : K.lookup f7 = some ⟨oc7, od7, .func (PySem.W.fnOf "speed_pairs" "speed_pairs" (defArgs sPairs) (defBody sPairs) (defScope sPairs) .none kV7 dc7 pm7 an7 cd7 ct7), sl7⟩)
    (c7 : PySem.W.codeIn K cd7 "speed_pairs" = true)
    (k7 : PySem.W.keepIn K (.ref f7) = true)
    (a8 : PySem.W.nsIn K mainGlobals "_law_well" = some (some (.ref f8)))
    (l8 : K.lookup f8 = some ⟨oc8, od8, .func (PySem.W.fnOf "_law_well" "_law_well" (defArgs sWell) (defBody sWell) (defScope sWell) .none kV8 dc8 pm8 an8 cd8 ct8), sl8⟩)
    (c8 : PySem.W.codeIn K cd8 "_law_well" = true)
    (k8 : PySem.W.keepIn K (.ref f8) = true)
    (a9 : PySem.W.nsIn K mainGlobals "_law_take" = some (some (.ref f9)))
    (l9 : K.lookup f9 = some ⟨oc9, od9, .func (PySem.W.fnOf "_law_take" "_law_take" (defArgs sTake) (defBody sTake) (defScope sTake) .none kV9 dc9 pm9 an9 cd9 ct9), sl9⟩)
    (c9 : PySem.W.codeIn K cd9 "_law_take" = true)
    (k9 : PySem.W.keepIn K (.ref f9) = true)
    (a10 : PySem.W.nsIn K mainGlobals "_law_number" = some (some (.ref f10)))
    (l10 : K.lookup f10 = some ⟨oc10, od10, .func (PySem.W.fnOf "_law_number" "_law_number" (defArgs sNumber) (defBody sNumber) (defScope sNumber) .none kV10 dc10 pm10 an10 cd10 ct10), sl10⟩)
    (c10 : PySem.W.codeIn K cd10 "_law_number" = true)
    (k10 : PySem.W.keepIn K (.ref f10) = true)
    (a11 : PySem.W.nsIn K mainGlobals "_law_paces" = some (some (.ref f11)))
    (l11 : K.lookup f11 = some ⟨oc11, od11, .func (PySem.W.fnOf "_law_paces" "_law_paces" (defArgs sPaces) (defBody sPaces) (defScope sPaces) .none kV11 dc11 pm11 an11 cd11 ct11), sl11⟩)
    (c11 : PySem.W.codeIn K cd11 "_law_paces" = true)
    (k11 : PySem.W.keepIn K (.ref f11) = true)
    (a12 : PySem.W.nsIn K mainGlobals "_law_marks" = some (some (.ref f12)))
    (l12 : K.lookup f12 = some ⟨oc12, od12, .func (PySem.W.fnOf "_law_marks" "_law_marks" (defArgs sMarks) (defBody sMarks) (defScope sMarks) .none kV12 dc12 pm12 an12 cd12 ct12), sl12⟩)
    (c12 : PySem.W.codeIn K cd12 "_law_marks" = true)
    (k12 : PySem.W.keepIn K (.ref f12) = true)
    (a13 : PySem.W.nsIn K mainGlobals "_law_pace" = some (some (.ref f13)))
    (l13 : K.lookup f13 = some ⟨oc13, od13, .func (PySem.W.fnOf "_law_pace" "_law_pace" (defArgs sPace) (defBody sPace) (defScope sPace) .none kV13 dc13 pm13 an13 cd13 ct13), sl13⟩)
    (c13 : PySem.W.codeIn K cd13 "_law_pace" = true)
    (k13 : PySem.W.keepIn K (.ref f13) = true)
    (a14 : PySem.W.nsIn K mainGlobals "_law_told" = some (some (.ref f14)))
    (l14 : K.lookup f14 = some ⟨oc14, od14, .func (PySem.W.fnOf "_law_told" "_law_told" (defArgs sTold) (defBody sTold) (defScope sTold) .none kV14 dc14 pm14 an14 cd14 ct14), sl14⟩)
    (c14 : PySem.W.codeIn K cd14 "_law_told" = true)
    (k14 : PySem.W.keepIn K (.ref f14) = true)
    (a15 : PySem.W.nsIn K mainGlobals "_law_joined" = some (some (.ref f15)))
    (l15 : K.lookup f15 = some ⟨oc15, od15, .func (PySem.W.fnOf "_law_joined" "_law_joined" (defArgs sJoined) (defBody sJoined) (defScope sJoined) .none kV15 dc15 pm15 an15 cd15 ct15), sl15⟩)
    (c15 : PySem.W.codeIn K cd15 "_law_joined" = true)
    (k15 : PySem.W.keepIn K (.ref f15) = true)
    (a16 : PySem.W.nsIn K mainGlobals "_law_due" = some (some (.ref f16)))
    (l16 : K.lookup f16 = some ⟨oc16, od16, .func (PySem.W.fnOf "_law_due" "_law_due" (defArgs sDueL) (defBody sDueL) (defScope sDueL) .none kV16 dc16 pm16 an16 cd16 ct16), sl16⟩)
    (c16 : PySem.W.codeIn K cd16 "_law_due" = true)
    (k16 : PySem.W.keepIn K (.ref f16) = true)
    (a17 : PySem.W.nsIn K mainGlobals "_law_fits" = some (some (.ref f17)))
    (l17 : K.lookup f17 = some ⟨oc17, od17, .func (PySem.W.fnOf "_law_fits" "_law_fits" (defArgs sFits) (defBody sFits) (defScope sFits) .none kV17 dc17 pm17 an17 cd17 ct17), sl17⟩)
    (c17 : PySem.W.codeIn K cd17 "_law_fits" = true)
    (k17 : PySem.W.keepIn K (.ref f17) = true)
    (a18 : PySem.W.nsIn K mainGlobals "law" = some (some (.ref f18)))
    (l18 : K.lookup f18 = some ⟨oc18, od18, .func (PySem.W.fnOf "law" "law" (defArgs sLaw) (defBody sLaw) (defScope sLaw) .none kV18 dc18 pm18 an18 cd18 ct18), sl18⟩)
    (c18 : PySem.W.codeIn K cd18 "law" = true)
    (k18 : PySem.W.keepIn K (.ref f18) = true)
    (a19 : PySem.W.findIn K (.ref C) "__init__" = some (some (.ref f19)))
    (i19 : PySem.W.isFn K (.ref f19) = true)
    (j19 : PySem.W.fnIn K f19 = true)
    (l19 : K.lookup f19 = some ⟨oc19, od19, .func (PySem.W.fnOf "__init__" "Calendar.__init__" (defArgs sInit) (defBody sInit) (defScope sInit) .none kV19 dc19 pm19 an19 cd19 ct19), sl19⟩)
    (c19 : PySem.W.codeIn K cd19 "Calendar.__init__" = true)
    (k19 : PySem.W.keepIn K (.ref f19) = true)
    (a20 : PySem.W.findIn K (.ref C) "__getitem__" = some (some (.ref f20)))
    (i20 : PySem.W.isFn K (.ref f20) = true)
    (j20 : PySem.W.fnIn K f20 = true)
    (l20 : K.lookup f20 = some ⟨oc20, od20, .func (PySem.W.fnOf "__getitem__" "Calendar.__getitem__" (defArgs sGet) (defBody sGet) (defScope sGet) .none kV20 dc20 pm20 an20 cd20 ct20), sl20⟩)
    (c20 : PySem.W.codeIn K cd20 "Calendar.__getitem__" = true)
    (k20 : PySem.W.keepIn K (.ref f20) = true)
    (a21 : PySem.W.findIn K (.ref C) "__or__" = some (some (.ref f21)))
    (i21 : PySem.W.isFn K (.ref f21) = true)
    (j21 : PySem.W.fnIn K f21 = true)
    (l21 : K.lookup f21 = some ⟨oc21, od21, .func (PySem.W.fnOf "__or__" "Calendar.__or__" (defArgs sOr) (defBody sOr) (defScope sOr) .none kV21 dc21 pm21 an21 cd21 ct21), sl21⟩)
    (c21 : PySem.W.codeIn K cd21 "Calendar.__or__" = true)
    (k21 : PySem.W.keepIn K (.ref f21) = true)
    (a22 : PySem.W.findIn K (.ref C) "__and__" = some (some (.ref f22)))
    (i22 : PySem.W.isFn K (.ref f22) = true)
    (j22 : PySem.W.fnIn K f22 = true)
    (l22 : K.lookup f22 = some ⟨oc22, od22, .func (PySem.W.fnOf "__and__" "Calendar.__and__" (defArgs sAnd) (defBody sAnd) (defScope sAnd) .none kV22 dc22 pm22 an22 cd22 ct22), sl22⟩)
    (c22 : PySem.W.codeIn K cd22 "Calendar.__and__" = true)
    (k22 : PySem.W.keepIn K (.ref f22) = true)
    (a23 : PySem.W.findIn K (.ref C) "__eq__" = some (some (.ref f23)))
    (i23 : PySem.W.isFn K (.ref f23) = true)
    (j23 : PySem.W.fnIn K f23 = true)
    (l23 : K.lookup f23 = some ⟨oc23, od23, .func (PySem.W.fnOf "__eq__" "Calendar.__eq__" (defArgs sEq) (defBody sEq) (defScope sEq) .none kV23 dc23 pm23 an23 cd23 ct23), sl23⟩)
    (c23 : PySem.W.codeIn K cd23 "Calendar.__eq__" = true)
    (k23 : PySem.W.keepIn K (.ref f23) = true)
    (a24 : PySem.W.findIn K (.ref C) "week" = some (some (.ref p24)))
    (g24 : PySem.W.specialIn K (.ref p24) "__get__" = some (some (.builtin "property.__get__")))
    (t24 : PySem.W.takesIn K (.ref p24) = some true)
    (r24 : PySem.W.recIn K p24 "property" = some (.ref f24 :: rs24))
    (l24 : K.lookup f24 = some ⟨oc24, od24, .func (PySem.W.fnOf "week" "Calendar.week" (defArgs sWeek) (defBody sWeek) (defScope sWeek) .none kV24 dc24 pm24 an24 cd24 ct24), sl24⟩)
    (c24 : PySem.W.codeIn K cd24 "Calendar.week" = true)
    (k24 : PySem.W.keepIn K (.ref f24) = true)
    (a25 : PySem.W.findIn K (.ref C) "speeds" = some (some (.ref p25)))
    (g25 : PySem.W.specialIn K (.ref p25) "__get__" = some (some (.builtin "property.__get__")))
    (t25 : PySem.W.takesIn K (.ref p25) = some true)
    (r25 : PySem.W.recIn K p25 "property" = some (.ref f25 :: rs25))
    (l25 : K.lookup f25 = some ⟨oc25, od25, .func (PySem.W.fnOf "speeds" "Calendar.speeds" (defArgs sSpeeds) (defBody sSpeeds) (defScope sSpeeds) .none kV25 dc25 pm25 an25 cd25 ct25), sl25⟩)
    (c25 : PySem.W.codeIn K cd25 "Calendar.speeds" = true)
    (k25 : PySem.W.keepIn K (.ref f25) = true)
    (a26 : PySem.W.findIn K (.ref C) "changes" = some (some (.ref p26)))
    (g26 : PySem.W.specialIn K (.ref p26) "__get__" = some (some (.builtin "property.__get__")))
    (t26 : PySem.W.takesIn K (.ref p26) = some true)
    (r26 : PySem.W.recIn K p26 "property" = some (.ref f26 :: rs26))
    (l26 : K.lookup f26 = some ⟨oc26, od26, .func (PySem.W.fnOf "changes" "Calendar.changes" (defArgs sChanges) (defBody sChanges) (defScope sChanges) .none kV26 dc26 pm26 an26 cd26 ct26), sl26⟩)
    (c26 : PySem.W.codeIn K cd26 "Calendar.changes" = true)
    (k26 : PySem.W.keepIn K (.ref f26) = true)
    (z_int : PySem.W.nsIn K mainGlobals "int" = some none)
    (z_len : PySem.W.nsIn K mainGlobals "len" = some none)
    (z_abs : PySem.W.nsIn K mainGlobals "abs" = some none)
    (z_max : PySem.W.nsIn K mainGlobals "max" = some none)
    (z_min : PySem.W.nsIn K mainGlobals "min" = some none)
    (z_range : PySem.W.nsIn K mainGlobals "range" = some none)
    (z_repr : PySem.W.nsIn K mainGlobals "repr" = some none)
    (z_list : PySem.W.nsIn K mainGlobals "list" = some none)
    (z_enumerate : PySem.W.nsIn K mainGlobals "enumerate" = some none)
    (z_sum : PySem.W.nsIn K mainGlobals "sum" = some none)
    (z_divmod : PySem.W.nsIn K mainGlobals "divmod" = some none)
    (z_sorted : PySem.W.nsIn K mainGlobals "sorted" = some none)
    (z_zip : PySem.W.nsIn K mainGlobals "zip" = some none)
    (z_set : PySem.W.nsIn K mainGlobals "set" = some none)
    (z_isinstance : PySem.W.nsIn K mainGlobals "isinstance" = some none)
    (z_bool : PySem.W.nsIn K mainGlobals "bool" = some none)
    (q_GREATEST_WEEK : PySem.W.nsIn K mainGlobals "GREATEST_WEEK" = some (some (.int 12 t_GREATEST_WEEK)))
    (q_GREATEST_SPEED : PySem.W.nsIn K mainGlobals "GREATEST_SPEED" = some (some (.int 3 t_GREATEST_SPEED)))
    (pgC : PySem.W.plainGet K C Str.empty = true)
    (hdC : PySem.W.hasDictIn K C = true)
    (poC : PySem.W.plainOver K C = true)
    (saC : PySem.W.findIn K (.ref C) "__setattr__" = some (some (.builtin "object.__setattr__")))
    (mkC : PySem.W.makesIn K C = true)
    (kcC : PySem.W.keepIn K (.ref C) = true)
    (n_speeds : PySem.W.findIn K (.ref C) "_speeds" = some none)
    (n_changes : PySem.W.findIn K (.ref C) "_changes" = some none)
    (sfC : PySem.W.selfFirst K C = true)
    (aCD : PySem.W.nsIn K mainGlobals "DueError" = some (some (.ref CD)))
    (tCD : PySem.W.typeIn K (.ref CD) = some (.type "type"))
    (dCD : PySem.W.hasDictIn K CD = true)
    (aCW : PySem.W.nsIn K mainGlobals "InvalidWeek" = some (some (.ref CW)))
    (tCW : PySem.W.typeIn K (.ref CW) = some (.type "type"))
    (dCW : PySem.W.hasDictIn K CW = true)
    (aCS : PySem.W.nsIn K mainGlobals "InvalidSpeed" = some (some (.ref CS)))
    (tCS : PySem.W.typeIn K (.ref CS) = some (.type "type"))
    (dCS : PySem.W.hasDictIn K CS = true)
    (aCN : PySem.W.nsIn K mainGlobals "NeverOpen" = some (some (.ref CN)))
    (tCN : PySem.W.typeIn K (.ref CN) = some (.type "type"))
    (dCN : PySem.W.hasDictIn K CN = true)
    (aCC : PySem.W.nsIn K mainGlobals "InvalidChange" = some (some (.ref CC)))
    (tCC : PySem.W.typeIn K (.ref CC) = some (.type "type"))
    (dCC : PySem.W.hasDictIn K CC = true)
    (aCU : PySem.W.nsIn K mainGlobals "UnlikeWeeks" = some (some (.ref CU)))
    (tCU : PySem.W.typeIn K (.ref CU) = some (.type "type"))
    (dCU : PySem.W.hasDictIn K CU = true)
    (bCD : PySem.W.subIn K (.ref CD) (.type "BaseException") = some true)
    (xCW : K.lookup CW = some (excClassObj nm_CW q_CW CW N_CW bs_CW [.ref CD, .type "ValueError", .type "Exception", .type "BaseException", .type "object"] true sn_CW sub_CW ab_CW col_CW dd_CW m0_CW m1_CW m2_CW m3_CW m5_CW "ValueError.__new__"))
    (sCW : PySem.W.findIn K (.ref CW) "__setattr__" = some (some (.builtin "object.__setattr__")))
    (bCW : PySem.W.subIn K (.ref CW) (.type "BaseException") = some true)
    (kCW : PySem.W.keepIn K (.ref CW) = true)
    (vCW : PySem.W.findIn K (.ref CW) "value" = some none)
    (iCW : PySem.W.findIn K (.ref CW) "__init__" = some (some (.ref fE)))
    (gCW : PySem.W.findIn K (.ref CW) "__getattribute__" = some (some (.builtin "BaseException.__getattribute__")))
    (hCW : PySem.W.findIn K (.ref CW) "__getattr__" = some none)
    (lCW : PySem.W.findIn K (.ref CW) "__class__" = some (some (.builtin "object.__class__")))
    (mCW : PySem.W.mroIn K CW (.type "object") = some true)
    (xCS : K.lookup CS = some (excClassObj nm_CS q_CS CS N_CS bs_CS [.ref CD, .type "ValueError", .type "Exception", .type "BaseException", .type "object"] true sn_CS sub_CS ab_CS col_CS dd_CS m0_CS m1_CS m2_CS m3_CS m5_CS "ValueError.__new__"))
    (sCS : PySem.W.findIn K (.ref CS) "__setattr__" = some (some (.builtin "object.__setattr__")))
    (bCS : PySem.W.subIn K (.ref CS) (.type "BaseException") = some true)
    (kCS : PySem.W.keepIn K (.ref CS) = true)
    (vCS : PySem.W.findIn K (.ref CS) "value" = some none)
    (iCS : PySem.W.findIn K (.ref CS) "__init__" = some (some (.ref fE)))
    (gCS : PySem.W.findIn K (.ref CS) "__getattribute__" = some (some (.builtin "BaseException.__getattribute__")))
    (hCS : PySem.W.findIn K (.ref CS) "__getattr__" = some none)
    (lCS : PySem.W.findIn K (.ref CS) "__class__" = some (some (.builtin "object.__class__")))
    (mCS : PySem.W.mroIn K CS (.type "object") = some true)
    (xCN : K.lookup CN = some (excClassObj nm_CN q_CN CN N_CN bs_CN [.ref CD, .type "ValueError", .type "Exception", .type "BaseException", .type "object"] true sn_CN sub_CN ab_CN col_CN dd_CN m0_CN m1_CN m2_CN m3_CN m5_CN "ValueError.__new__"))
    (sCN : PySem.W.findIn K (.ref CN) "__setattr__" = some (some (.builtin "object.__setattr__")))
    (bCN : PySem.W.subIn K (.ref CN) (.type "BaseException") = some true)
    (kCN : PySem.W.keepIn K (.ref CN) = true)
    (vCN : PySem.W.findIn K (.ref CN) "value" = some none)
    (iCN : PySem.W.findIn K (.ref CN) "__init__" = some (some (.ref fE)))
    (gCN : PySem.W.findIn K (.ref CN) "__getattribute__" = some (some (.builtin "BaseException.__getattribute__")))
    (hCN : PySem.W.findIn K (.ref CN) "__getattr__" = some none)
    (lCN : PySem.W.findIn K (.ref CN) "__class__" = some (some (.builtin "object.__class__")))
    (mCN : PySem.W.mroIn K CN (.type "object") = some true)
    (uDCN : PySem.W.subIn K (.ref CN) (.ref CD) = some true)
    (uCNCW : PySem.W.subIn K (.ref CN) (.ref CW) = some false)
    (uCNCS : PySem.W.subIn K (.ref CN) (.ref CS) = some false)
    (uCNCN : PySem.W.subIn K (.ref CN) (.ref CN) = some true)
    (uCNCC : PySem.W.subIn K (.ref CN) (.ref CC) = some false)
    (uCNCU : PySem.W.subIn K (.ref CN) (.ref CU) = some false)
    (xCC : K.lookup CC = some (excClassObj nm_CC q_CC CC N_CC bs_CC [.ref CD, .type "ValueError", .type "Exception", .type "BaseException", .type "object"] true sn_CC sub_CC ab_CC col_CC dd_CC m0_CC m1_CC m2_CC m3_CC m5_CC "ValueError.__new__"))
    (sCC : PySem.W.findIn K (.ref CC) "__setattr__" = some (some (.builtin "object.__setattr__")))
    (bCC : PySem.W.subIn K (.ref CC) (.type "BaseException") = some true)
    (kCC : PySem.W.keepIn K (.ref CC) = true)
    (vCC : PySem.W.findIn K (.ref CC) "value" = some none)
    (iCC : PySem.W.findIn K (.ref CC) "__init__" = some (some (.ref fE)))
    (gCC : PySem.W.findIn K (.ref CC) "__getattribute__" = some (some (.builtin "BaseException.__getattribute__")))
    (hCC : PySem.W.findIn K (.ref CC) "__getattr__" = some none)
    (lCC : PySem.W.findIn K (.ref CC) "__class__" = some (some (.builtin "object.__class__")))
    (mCC : PySem.W.mroIn K CC (.type "object") = some true)
    (xCU : K.lookup CU = some (excClassObj nm_CU q_CU CU N_CU bs_CU [.ref CD, .type "ValueError", .type "Exception", .type "BaseException", .type "object"] true sn_CU sub_CU ab_CU col_CU dd_CU m0_CU m1_CU m2_CU m3_CU m5_CU "ValueError.__new__"))
    (sCU : PySem.W.findIn K (.ref CU) "__setattr__" = some (some (.builtin "object.__setattr__")))
    (bCU : PySem.W.subIn K (.ref CU) (.type "BaseException") = some true)
    (kCU : PySem.W.keepIn K (.ref CU) = true)
    (vCU : PySem.W.findIn K (.ref CU) "value" = some none)
    (iCU : PySem.W.findIn K (.ref CU) "__init__" = some (some (.ref fE)))
    (gCU : PySem.W.findIn K (.ref CU) "__getattribute__" = some (some (.builtin "BaseException.__getattribute__")))
    (hCU : PySem.W.findIn K (.ref CU) "__getattr__" = some none)
    (lCU : PySem.W.findIn K (.ref CU) "__class__" = some (some (.builtin "object.__class__")))
    (mCU : PySem.W.mroIn K CU (.type "object") = some true)
    (uDCU : PySem.W.subIn K (.ref CU) (.ref CD) = some true)
    (uCUCW : PySem.W.subIn K (.ref CU) (.ref CW) = some false)
    (uCUCS : PySem.W.subIn K (.ref CU) (.ref CS) = some false)
    (uCUCN : PySem.W.subIn K (.ref CU) (.ref CN) = some false)
    (uCUCC : PySem.W.subIn K (.ref CU) (.ref CC) = some false)
    (uCUCU : PySem.W.subIn K (.ref CU) (.ref CU) = some true)
    (icN : PySem.W.specialIn K (.builtin "object.__class__") "__get__" = some (some (.builtin "getset_descriptor.__get__")))
    (icT : PySem.W.takesIn K (.builtin "object.__class__") = some true)
    (lE : K.lookup fE = some ⟨ocE, odE, .func (PySem.W.fnOf "__init__" "DueError.__init__" (defArgs sErr) (defBody sErr) (defScope sErr) .none kVE dcE pmE anE cdE ctE), slE⟩)
    (cE : PySem.W.codeIn K cdE "DueError.__init__" = true)
    (kE : PySem.W.keepIn K (.ref fE) = true)
    (tE : PySem.W.typeIn K (.ref fE) = some (.type "function"))
    (icA : PySem.W.findIn K (.ref C) "__class__" = some (some (.builtin "object.__class__")))
    (icM : PySem.W.mroIn K C (.type "object") = some true) :
    ∃ fd : FuncData, (∀ (s : Shared) (v : Value), BindsTo s fd ⟨[v], []⟩ [("script", v)]) ∧ ∀ base : Heap, K.In base → base.Ns mainGlobals mg → FnG l.prog w K mg base 10 fa fd ["script"] (spLaw K) := by
  have e := hfa.symm.trans (PySem.W.mg_of X G a18)
  cases e
  have F_sChkWeek := fun_mk (st := sChkWeek) l0 c0 k0
  have b_sChkWeek := F_sChkWeek.binds (ps := ["number"]) fun _ _ _ _ _ _ us hl => match us, hl with | [_], _ => rfl
  have m_sChkWeek := PySem.W.mg_of X G a0
  have k_sChkWeek := k0
  have F_sWeeks := fun_mk (st := sWeeks) l1 c1 k1
  have b_sWeeks := F_sWeeks.binds (ps := ["one", "other"]) fun _ _ _ _ _ _ us hl => match us, hl with | [_, _], _ => rfl
  have m_sWeeks := PySem.W.mg_of X G a1
  have k_sWeeks := k1
  have F_sBehind := fun_mk (st := sBehind) l2 c2 k2
  have b_sBehind := F_sBehind.binds (ps := ["changes", "index"]) fun _ _ _ _ _ _ us hl => match us, hl with | [_, _], _ => rfl
  have m_sBehind := PySem.W.mg_of X G a2
  have k_sBehind := k2
  have F_sChanged := fun_mk (st := sChanged) l3 c3 k3
  have m_sChanged := PySem.W.mg_of X G a3
  have k_sChanged := k3
  have F_sIsSpeed := fun_mk (st := sIsSpeed) l4 c4 k4
  have b_sIsSpeed := F_sIsSpeed.binds (ps := ["number"]) fun _ _ _ _ _ _ us hl => match us, hl with | [_], _ => rfl
  have m_sIsSpeed := PySem.W.mg_of X G a4
  have k_sIsSpeed := k4
  have F_sChkSpeeds := fun_mk (st := sChkSpeeds) l5 c5 k5
  have b_sChkSpeeds := F_sChkSpeeds.binds (ps := ["speeds"]) fun _ _ _ _ _ _ us hl => match us, hl with | [_], _ => rfl
  have m_sChkSpeeds := PySem.W.mg_of X G a5
  have k_sChkSpeeds := k5
  have F_sChkChanges := fun_mk (st := sChkChanges) l6 c6 k6
  have b_sChkChanges := F_sChkChanges.binds (ps := ["changes"]) fun _ _ _ _ _ _ us hl => match us, hl with | [_], _ => rfl
  have m_sChkChanges := PySem.W.mg_of X G a6
  have k_sChkChanges := k6
  have F_sPairs := fun_mk (st := sPairs) l7 c7 k7
  have b_sPairs := F_sPairs.binds (ps := ["one", "other"]) fun _ _ _ _ _ _ us hl => match us, hl with | [_, _], _ => rfl
  have m_sPairs := PySem.W.mg_of X G a7
  have k_sPairs := k7
  have F_sWell := fun_mk (st := sWell) l8 c8 k8
  have b_sWell := F_sWell.binds (ps := ["script", "place"]) fun _ _ _ _ _ _ us hl => match us, hl with | [_, _], _ => rfl
  have m_sWell := PySem.W.mg_of X G a8
  have k_sWell := k8
  have F_sTake := fun_mk (st := sTake) l9 c9 k9
  have b_sTake := F_sTake.binds (ps := ["well", "many"]) fun _ _ _ _ _ _ us hl => match us, hl with | [_, _], _ => rfl
  have m_sTake := PySem.W.mg_of X G a9
  have k_sTake := k9
  have F_sNumber := fun_mk (st := sNumber) l10 c10 k10
  have b_sNumber := F_sNumber.binds (ps := ["well"]) fun _ _ _ _ _ _ us hl => match us, hl with | [_], _ => rfl
  have m_sNumber := PySem.W.mg_of X G a10
  have k_sNumber := k10
  have F_sPaces := fun_mk (st := sPaces) l11 c11 k11
  have b_sPaces := F_sPaces.binds (ps := ["well", "size"]) fun _ _ _ _ _ _ us hl => match us, hl with | [_, _], _ => rfl
  have m_sPaces := PySem.W.mg_of X G a11
  have k_sPaces := k11
  have F_sMarks := fun_mk (st := sMarks) l12 c12 k12
  have b_sMarks := F_sMarks.binds (ps := ["well", "size", "cap"]) fun _ _ _ _ _ _ us hl => match us, hl with | [_, _, _], _ => rfl
  have m_sMarks := PySem.W.mg_of X G a12
  have k_sMarks := k12
  have F_sPace := fun_mk (st := sPace) l13 c13 k13
  have b_sPace := F_sPace.binds (ps := ["paces", "marks", "at"]) fun _ _ _ _ _ _ us hl => match us, hl with | [_, _, _], _ => rfl
  have m_sPace := PySem.W.mg_of X G a13
  have k_sPace := k13
  have F_sTold := fun_mk (st := sTold) l14 c14 k14
  have b_sTold := F_sTold.binds (ps := ["made", "twin", "sign"]) fun _ _ _ _ _ _ us hl => match us, hl with | [_, _, _], _ => rfl
  have m_sTold := PySem.W.mg_of X G a14
  have k_sTold := k14
  have F_sJoined := fun_mk (st := sJoined) l15 c15 k15
  have b_sJoined := F_sJoined.binds (ps := ["one", "two", "sign"]) fun _ _ _ _ _ _ us hl => match us, hl with | [_, _, _], _ => rfl
  have m_sJoined := PySem.W.mg_of X G a15
  have k_sJoined := k15
  have F_sDueL := fun_mk (st := sDueL) l16 c16 k16
  have b_sDueL := F_sDueL.binds (ps := ["paces", "marks", "twins", "pairs", "sign"]) fun _ _ _ _ _ _ us hl => match us, hl with | [_, _, _, _, _], _ => rfl
  have m_sDueL := PySem.W.mg_of X G a16
  have k_sDueL := k16
  have F_sFits := fun_mk (st := sFits) l17 c17 k17
  have b_sFits := F_sFits.binds (ps := ["well"]) fun _ _ _ _ _ _ us hl => match us, hl with | [_], _ => rfl
  have m_sFits := PySem.W.mg_of X G a17
  have k_sFits := k17
  have F_sLaw := fun_mk (st := sLaw) l18 c18 k18
  have b_sLaw := F_sLaw.binds (ps := ["script"]) fun _ _ _ _ _ _ us hl => match us, hl with | [_], _ => rfl
  have m_sLaw := PySem.W.mg_of X G a18
  have k_sLaw := k18
  have o_sInit : Own K C "__init__" f19 := ⟨a19, i19, j19⟩
  have F_sInit := fun_mk (st := sInit) l19 c19 k19
  have b_sInit := F_sInit.binds (ps := ["self", "speeds", "changes"]) fun _ _ _ _ _ _ us hl => match us, hl with | [_, _, _], _ => rfl
  have h_sInit : Meth K C "__init__" f19 := ⟨a19, i19, k19⟩
  have MK : Mk K C f19 := ⟨mkC, a19, i19, kcC⟩
  have o_sGet : Own K C "__getitem__" f20 := ⟨a20, i20, j20⟩
  have F_sGet := fun_mk (st := sGet) l20 c20 k20
  have b_sGet := F_sGet.binds (ps := ["self", "at"]) fun _ _ _ _ _ _ us hl => match us, hl with | [_, _], _ => rfl
  have h_sGet : Meth K C "__getitem__" f20 := ⟨a20, i20, k20⟩
  have o_sOr : Own K C "__or__" f21 := ⟨a21, i21, j21⟩
  have F_sOr := fun_mk (st := sOr) l21 c21 k21
  have b_sOr := F_sOr.binds (ps := ["self", "other"]) fun _ _ _ _ _ _ us hl => match us, hl with | [_, _], _ => rfl
  have h_sOr : Meth K C "__or__" f21 := ⟨a21, i21, k21⟩
  have o_sAnd : Own K C "__and__" f22 := ⟨a22, i22, j22⟩
  have F_sAnd := fun_mk (st := sAnd) l22 c22 k22
  have b_sAnd := F_sAnd.binds (ps := ["self", "other"]) fun _ _ _ _ _ _ us hl => match us, hl with | [_, _], _ => rfl
  have h_sAnd : Meth K C "__and__" f22 := ⟨a22, i22, k22⟩
  have o_sEq : Own K C "__eq__" f23 := ⟨a23, i23, j23⟩
  have F_sEq := fun_mk (st := sEq) l23 c23 k23
  have b_sEq := F_sEq.binds (ps := ["self", "other"]) fun _ _ _ _ _ _ us hl => match us, hl with | [_, _], _ => rfl
  have h_sEq : Meth K C "__eq__" f23 := ⟨a23, i23, k23⟩
  have F_sWeek := fun_mk (st := sWeek) l24 c24 k24
  have b_sWeek := F_sWeek.binds (ps := ["self"]) fun _ _ _ _ _ _ us hl => match us, hl with | [_], _ => rfl
  have P_sWeek : PropOf K C "week" p24 f24 := ⟨a24, g24, t24, _, r24⟩
  have F_sSpeeds := fun_mk (st := sSpeeds) l25 c25 k25
  have b_sSpeeds := F_sSpeeds.binds (ps := ["self"]) fun _ _ _ _ _ _ us hl => match us, hl with | [_], _ => rfl
  have P_sSpeeds : PropOf K C "speeds" p25 f25 := ⟨a25, g25, t25, _, r25⟩
  have F_sChanges := fun_mk (st := sChanges) l26 c26 k26
  have b_sChanges := F_sChanges.binds (ps := ["self"]) fun _ _ _ _ _ _ us hl => match us, hl with | [_], _ => rfl
  have P_sChanges : PropOf K C "changes" p26 f26 := ⟨a26, g26, t26, _, r26⟩
  have n_int : mg "int" = none := PySem.W.mg_none_of X G z_int
  have n_len : mg "len" = none := PySem.W.mg_none_of X G z_len
  have n_abs : mg "abs" = none := PySem.W.mg_none_of X G z_abs
  have n_max : mg "max" = none := PySem.W.mg_none_of X G z_max
  have n_min : mg "min" = none := PySem.W.mg_none_of X G z_min
  have n_range : mg "range" = none := PySem.W.mg_none_of X G z_range
  have n_repr : mg "repr" = none := PySem.W.mg_none_of X G z_repr
  have n_list : mg "list" = none := PySem.W.mg_none_of X G z_list
  have n_enumerate : mg "enumerate" = none := PySem.W.mg_none_of X G z_enumerate
  have n_sum : mg "sum" = none := PySem.W.mg_none_of X G z_sum
  have n_divmod : mg "divmod" = none := PySem.W.mg_none_of X G z_divmod
  have n_sorted : mg "sorted" = none := PySem.W.mg_none_of X G z_sorted
  have n_zip : mg "zip" = none := PySem.W.mg_none_of X G z_zip
  have n_set : mg "set" = none := PySem.W.mg_none_of X G z_set
  have n_isinstance : mg "isinstance" = none := PySem.W.mg_none_of X G z_isinstance
  have n_bool : mg "bool" = none := PySem.W.mg_none_of X G z_bool
  have v_GREATEST_WEEK := PySem.W.mg_of X G q_GREATEST_WEEK
  have v_GREATEST_SPEED := PySem.W.mg_of X G q_GREATEST_SPEED
  have mgC := PySem.W.mg_of X G aC
  have clC : Cls K C := ⟨pgC, hdC, poC, saC⟩
  refine ⟨PySem.W.fnOf "law" "law" (defArgs sLaw) (defBody sLaw) (defScope sLaw) .none kV18 dc18 pm18 an18 cd18 ct18, fun s v => .of_eq rfl, fun base _ _ => ?_⟩
  have T : Blt mg := ⟨n_int, n_len, n_abs, n_max, n_min, n_range, n_repr, n_list⟩
  have Q : Con mg := ⟨⟨_, v_GREATEST_WEEK⟩, ⟨_, v_GREATEST_SPEED⟩, n_enumerate⟩
  have Z : Cal K mg C := ⟨clC, n_speeds, n_changes, mgC⟩
  have IS : At l.prog w K mg base 1 "is_speed" ["number"] spIsSpeed _ _ := ⟨ok_isSpeed F_sIsSpeed Q, m_sIsSpeed, k_sIsSpeed, b_sIsSpeed⟩
  have S1 : At l.prog w K mg base 2 "check_speeds" ["speeds"] (spChkS K) _ _ := ⟨ok_chkS F_sChkSpeeds Q T IS ⟨ok_chkW F_sChkWeek Q, m_sChkWeek, k_sChkWeek, b_sChkWeek⟩, m_sChkSpeeds, k_sChkSpeeds, b_sChkSpeeds⟩
  have S2 : At l.prog w K mg base 2 "check_changes" ["changes"] (spChkC K) _ _ := ⟨ok_chkC F_sChkChanges Q T IS ⟨ok_behind F_sBehind, m_sBehind, k_sBehind, b_sBehind⟩, m_sChkChanges, k_sChkChanges, b_sChkChanges⟩
  have GI : FnOk l.prog w K mg base CX0 3 _ _ ["self", "speeds", "changes"] (spInit C K) := ok_init F_sInit Z T S1 S2
  have L : Tk l.prog w K mg base _ _ := ⟨ok_take F_sTake T, m_sTake, k_sTake, b_sTake⟩
  have B : Nb l.prog w K mg base _ _ := ⟨ok_number F_sNumber T L, m_sNumber, k_sNumber, b_sNumber⟩
  have W : At l.prog w K mg base 1 "_law_well" ["script", "place"] (spWell K) _ _ := ⟨ok_well F_sWell T, m_sWell, k_sWell, b_sWell⟩
  have Pa : At l.prog w K mg base 2 "_law_paces" ["well", "size"] spPaces _ _ := ⟨ok_paces F_sPaces T L, m_sPaces, k_sPaces, b_sPaces⟩
  have Ma : At l.prog w K mg base 3 "_law_marks" ["well", "size", "cap"] spMarks _ _ := ⟨ok_marks F_sMarks T L B, m_sMarks, k_sMarks, b_sMarks⟩
  have W1 : Pp l.prog w K mg base C "week" (spWeek C) _ _ _ := ⟨P_sWeek, ok_week F_sWeek Z T, b_sWeek⟩
  have W2 : Pp l.prog w K mg base C "speeds" (spSpeeds C) _ _ _ := ⟨P_sSpeeds, ok_speeds F_sSpeeds Z T, b_sSpeeds⟩
  have W3 : Pp l.prog w K mg base C "changes" (spChanges C) _ _ _ := ⟨P_sChanges, ok_changes F_sChanges Z T, b_sChanges⟩
  have Gg : FnOk l.prog w K mg base CX0 1 _ _ ["self", "at"] (spGet C) := ok_get F_sGet Z T
  have Ch : AtR l.prog w K mg base 3 "changed_moments" (spChanged C) _ := ⟨ok_changed F_sChanged Z ⟨n_sorted⟩ W3, m_sChanged, k_sChanged⟩
  have Pc : At l.prog w K mg base 1 "_law_pace" ["paces", "marks", "at"] spPace _ _ := ⟨ok_pace F_sPace T, m_sPace, k_sPace, b_sPace⟩
  have IC : C8.InsC K C := ⟨clC, icA, icN, icT, icM, if_pos (beq_self_eq_true _)⟩
  have GE : FnOk l.prog w K mg base CX0 1 _ _ ["self", "other"] (spEqB C) := ok_eqB F_sEq Z n_isinstance IC
  have ECW : ErrC K CW fE := ⟨⟨⟨_, _, _, _, _, _, _, _, _, _, _, _, _, _, _, xCW, rfl⟩, sCW, bCW, tCW, kCW⟩, vCW, iCW, ⟨gCW, hCW, bCW, dCW, lCW, icN, icT, mCW⟩⟩
  have ECS : ErrC K CS fE := ⟨⟨⟨_, _, _, _, _, _, _, _, _, _, _, _, _, _, _, xCS, rfl⟩, sCS, bCS, tCS, kCS⟩, vCS, iCS, ⟨gCS, hCS, bCS, dCS, lCS, icN, icT, mCS⟩⟩
  have ECN : ErrC K CN fE := ⟨⟨⟨_, _, _, _, _, _, _, _, _, _, _, _, _, _, _, xCN, rfl⟩, sCN, bCN, tCN, kCN⟩, vCN, iCN, ⟨gCN, hCN, bCN, dCN, lCN, icN, icT, mCN⟩⟩
  have ECC : ErrC K CC fE := ⟨⟨⟨_, _, _, _, _, _, _, _, _, _, _, _, _, _, _, xCC, rfl⟩, sCC, bCC, tCC, kCC⟩, vCC, iCC, ⟨gCC, hCC, bCC, dCC, lCC, icN, icT, mCC⟩⟩
  have ECU : ErrC K CU fE := ⟨⟨⟨_, _, _, _, _, _, _, _, _, _, _, _, _, _, _, xCU, rfl⟩, sCU, bCU, tCU, kCU⟩, vCU, iCU, ⟨gCU, hCU, bCU, dCU, lCU, icN, icT, mCU⟩⟩
  have R : Errs K mg CW CS CN CC fE := ⟨ECW, ECS, ECN, ECC, PySem.W.mg_of X G aCW, PySem.W.mg_of X G aCS, PySem.W.mg_of X G aCN, PySem.W.mg_of X G aCC, tE⟩
  have KI : Kit5 K CW CS CN CC CU CD := ⟨⟨kit_eq, kit_ne uCUCN uCUCU dCN tCN, kit_ne uCUCW uCUCU dCW tCW, kit_ne uCUCS uCUCU dCS tCS, kit_ne uCUCC uCUCU dCC tCC, PySem.W.exm_ref bCD dCD tCD uDCU⟩, ⟨kit_ne uCNCU uCNCN dCU tCU, kit_eq, kit_ne uCNCW uCNCN dCW tCW, kit_ne uCNCS uCNCN dCS tCS, kit_ne uCNCC uCNCN dCC tCC, PySem.W.exm_ref bCD dCD tCD uDCN⟩⟩
  have gU := PySem.W.mg_of X G aCU
  have gD := PySem.W.mg_of X G aCD
  have F_sErr := fun_mk (st := sErr) lE cE kE
  have b_sErr := F_sErr.binds (ps := ["self", "value"]) fun _ _ _ _ _ _ us hl => match us, hl with | [_, _], _ => rfl
  have F1 : FnOk l.prog w K mg base CX0 1 fE _ ["self", "value"] (spErr K) := ok_err F_sErr
  have S0x : AtX l.prog w K mg base 3 "check_week" ["number"] (spChkWX CW) _ _ := ⟨ok_chkWX F_sChkWeek Q R F1 b_sErr, m_sChkWeek, k_sChkWeek, b_sChkWeek⟩
  have Bh0 : At l.prog w K mg base 1 "is_behind" ["changes", "index"] (spBehind K) _ _ := ⟨ok_behind F_sBehind, m_sBehind, k_sBehind, b_sBehind⟩
  have S1x : AtX l.prog w K mg base 4 "check_speeds" ["speeds"] (spChkSX K CW CS CN CC) _ _ := ⟨ok_chkSX F_sChkSpeeds Q T IS S0x R F1 b_sErr, m_sChkSpeeds, k_sChkSpeeds, b_sChkSpeeds⟩
  have S2x : AtX l.prog w K mg base 4 "check_changes" ["changes"] (spChkCX K CC) _ _ := ⟨ok_chkCX F_sChkChanges Q T IS Bh0 R F1 b_sErr, m_sChkChanges, k_sChkChanges, b_sChkChanges⟩
  have GIx : FnOk l.prog w K mg base (L2.CX l.prog w) 5 _ _ ["self", "speeds", "changes"] (spInitX C CW CS CN CC K) := ok_initX F_sInit Z T S1x S2x
  have Cwx : AtX l.prog w K mg base 3 "check_weeks" ["one", "other"] (spWeeksX C CU) _ _ := ⟨ok_weeksX F_sWeeks Z W1 ECU tE gU F1 b_sErr, m_sWeeks, k_sWeeks, b_sWeeks⟩
  have Prx : AtX l.prog w K mg base 4 "speed_pairs" ["one", "other"] (spPairsX C CU) _ _ := ⟨ok_pairsX F_sPairs T ⟨n_zip⟩ Z Cwx Ch o_sGet Gg b_sGet W2, m_sPairs, k_sPairs, b_sPairs⟩
  have GRx : FnOk l.prog w K mg base (L2.CX l.prog w) 7 _ _ ["self", "other"] (spJoinX mxI C CU CN) := ok_orX F_sOr T Z MK GIx b_sInit Prx
  have GNx : FnOk l.prog w K mg base (L2.CX l.prog w) 7 _ _ ["self", "other"] (spJoinX mnI C CU CN) := ok_andX F_sAnd T Z MK GIx b_sInit Prx
  have Jo : At l.prog w K mg base 1 "_law_joined" ["one", "two", "sign"] spJ5 _ _ := ⟨ok_j5 F_sJoined T, m_sJoined, k_sJoined, b_sJoined⟩
  have Du : At l.prog w K mg base 2 "_law_due" ["paces", "marks", "twins", "pairs", "sign"] (spDue5 K) _ _ := ⟨ok_due5 F_sDueL T ⟨n_sorted⟩ ⟨n_zip⟩ ⟨n_set⟩ Jo Pc, m_sDueL, k_sDueL, b_sDueL⟩
  have To : At l.prog w K mg base 8 "_law_told" ["made", "twin", "sign"] (spTold5 C K) _ _ := ⟨ok_told5 F_sTold T Z n_isinstance IC R ECU gU KI gD MK GI b_sInit o_sOr sfC GRx b_sOr o_sAnd GNx b_sAnd o_sGet Gg b_sGet o_sEq GE b_sEq W1 W2 W3, m_sTold, k_sTold, b_sTold⟩
  have GF : FnG l.prog w K mg base 9 _ _ ["well"] spFits := ok_fits F_sFits T Z L Pa Ma MK GI b_sInit To Du W1 W2 W3
  exact ok_law (by decide) F_sLaw T W GF m_sFits k_sFits b_sFits
end
end DK
open PySem PySem.W PyProof.Rows
set_option maxRecDepth 100000 in
set_option maxHeartbeats 0 in
theorem PySem.Challenge.cw_dueclocks_k05_calendars_joined_holds : PySem.Challenge.rw_dueclocks_k05_calendars_joined.Holds := by
  w_on; o_law; k_head; (case hw => w_witness2)
  k_fill
  refine DK.walkG (l := PySem.Challenge.rw_dueclocks_k05_calendars_joined) (n := 63) (k := 10) (x := "script") (sp := DK.spLaw) rfl (by decide) rfl ⟨rfl, by decide, by decide⟩ (fun w h Y => PySem.W.kIn_of Y) ?F (fun J H a ns hl hO hS => ⟨a, ns, rfl, DK.Scr.of hO hS, hl, fun _ => rfl⟩)
  case F =>
    intro w mg fa h KX G hmg
    refine' DK.all_mk KX G hmg ?aC ?a0 ?l0 ?c0 ?k0 ?a1 ?l1 ?c1 ?k1 ?a2 ?l2 ?c2 ?k2 ?a3 ?l3 ?c3 ?k3 ?a4 ?l4 ?c4 ?k4 ?a5 ?l5 ?c5 ?k5 ?a6 ?l6 ?c6 ?k6 ?a7 ?l7 ?c7 ?k7 ?a8 ?l8 ?c8 ?k8 ?a9 ?l9 ?c9 ?k9 ?a10 ?l10 ?c10 ?k10 ?a11 ?l11 ?c11 ?k11 ?a12 ?l12 ?c12 ?k12 ?a13 ?l13 ?c13 ?k13 ?a14 ?l14 ?c14 ?k14 ?a15 ?l15 ?c15 ?k15 ?a16 ?l16 ?c16 ?k16 ?a17 ?l17 ?c17 ?k17 ?a18 ?l18 ?c18 ?k18 ?a19 ?i19 ?j19 ?l19 ?c19 ?k19 ?a20 ?i20 ?j20 ?l20 ?c20 ?k20 ?a21 ?i21 ?j21 ?l21 ?c21 ?k21 ?a22 ?i22 ?j22 ?l22 ?c22 ?k22 ?a23 ?i23 ?j23 ?l23 ?c23 ?k23 ?a24 ?g24 ?t24 ?r24 ?l24 ?c24 ?k24 ?a25 ?g25 ?t25 ?r25 ?l25 ?c25 ?k25 ?a26 ?g26 ?t26 ?r26 ?l26 ?c26 ?k26 ?z_int ?z_len ?z_abs ?z_max ?z_min ?z_range ?z_repr ?z_list ?z_enumerate ?z_sum ?z_divmod ?z_sorted ?z_zip ?z_set ?z_isinstance ?z_bool ?q_GREATEST_WEEK ?q_GREATEST_SPEED ?pgC ?hdC ?poC ?saC ?mkC ?kcC ?n_speeds ?n_changes ?sfC ?aCD ?tCD ?dCD ?aCW ?tCW ?dCW ?aCS ?tCS ?dCS ?aCN ?tCN ?dCN ?aCC ?tCC ?dCC ?aCU ?tCU ?dCU ?bCD ?xCW ?sCW ?bCW ?kCW ?vCW ?iCW ?gCW ?hCW ?lCW ?mCW ?xCS ?sCS ?bCS ?kCS ?vCS ?iCS ?gCS ?hCS ?lCS ?mCS ?xCN ?sCN ?bCN ?kCN ?vCN ?iCN ?gCN ?hCN ?lCN ?mCN ?uDCN ?uCNCW ?uCNCS ?uCNCN ?uCNCC ?uCNCU ?xCC ?sCC ?bCC ?kCC ?vCC ?iCC ?gCC ?hCC ?lCC ?mCC ?xCU ?sCU ?bCU ?kCU ?vCU ?iCU ?gCU ?hCU ?lCU ?mCU ?uDCU ?uCUCW ?uCUCS ?uCUCN ?uCUCC ?uCUCU ?icN ?icT ?lE ?cE ?kE ?tE ?icA ?icM
    (case aC => k_is)
    (case a0 => k_is)
    (case l0 => k_is)
    (case c0 => k_is)
    (case k0 => k_is)
    (case a1 => k_is)
    (case l1 => k_is)
    (case c1 => k_is)
    (case k1 => k_is)
    (case a2 => k_is)
    (case l2 => k_is)
    (case c2 => k_is)
    (case k2 => k_is)
    (case a3 => k_is)
    (case l3 => k_is)
    (case c3 => k_is)
    (case k3 => k_is)
    (case a4 => k_is)
    (case l4 => k_is)
    (case c4 => k_is)
    (case k4 => k_is)
    (case a5 => k_is)
    (case l5 => k_is)
    (case c5 => k_is)
    (case k5 => k_is)
    (case a6 => k_is)
    (case l6 => k_is)
    (case c6 => k_is)
    (case k6 => k_is)
    (case a7 => k_is)
    (case l7 => k_is)
    (case c7 => k_is)
    (case k7 => k_is)
    (case a8 => k_is)
    (case l8 => k_is)
    (case c8 => k_is)
    (case k8 => k_is)
    (case a9 => k_is)
    (case l9 => k_is)
    (case c9 => k_is)
    (case k9 => k_is)
    (case a10 => k_is)
    (case l10 => k_is)
    (case c10 => k_is)
    (case k10 => k_is)
    (case a11 => k_is)
    (case l11 => k_is)
    (case c11 => k_is)
    (case k11 => k_is)
    (case a12 => k_is)
    (case l12 => k_is)
    (case c12 => k_is)
    (case k12 => k_is)
    (case a13 => k_is)
    (case l13 => k_is)
    (case c13 => k_is)
    (case k13 => k_is)
    (case a14 => k_is)
    (case l14 => k_is)
    (case c14 => k_is)
    (case k14 => k_is)
    (case a15 => k_is)
    (case l15 => k_is)
    (case c15 => k_is)
    (case k15 => k_is)
    (case a16 => k_is)
    (case l16 => k_is)
    (case c16 => k_is)
    (case k16 => k_is)
    (case a17 => k_is)
    (case l17 => k_is)
    (case c17 => k_is)
    (case k17 => k_is)
    (case a18 => k_is)
    (case l18 => k_is)
    (case c18 => k_is)
    (case k18 => k_is)
    (case a19 => k_is)
    (case i19 => k_is)
    (case j19 => k_is)
    (case l19 => k_is)
    (case c19 => k_is)
    (case k19 => k_is)
    (case a20 => k_is)
    (case i20 => k_is)
    (case j20 => k_is)
    (case l20 => k_is)
    (case c20 => k_is)
    (case k20 => k_is)
    (case a21 => k_is)
    (case i21 => k_is)
    (case j21 => k_is)
    (case l21 => k_is)
    (case c21 => k_is)
    (case k21 => k_is)
    (case a22 => k_is)
    (case i22 => k_is)
    (case j22 => k_is)
    (case l22 => k_is)
    (case c22 => k_is)
    (case k22 => k_is)
    (case a23 => k_is)
    (case i23 => k_is)
    (case j23 => k_is)
    (case l23 => k_is)
    (case c23 => k_is)
    (case k23 => k_is)
    (case a24 => k_is)
    (case g24 => k_is)
    (case t24 => k_is)
    (case r24 => k_is)
    (case l24 => k_is)
    (case c24 => k_is)
    (case k24 => k_is)
    (case a25 => k_is)
    (case g25 => k_is)
    (case t25 => k_is)
    (case r25 => k_is)
    (case l25 => k_is)
    (case c25 => k_is)
    (case k25 => k_is)
    (case a26 => k_is)
    (case g26 => k_is)
    (case t26 => k_is)
    (case r26 => k_is)
    (case l26 => k_is)
    (case c26 => k_is)
    (case k26 => k_is)
    (case z_int => k_is)
    (case z_len => k_is)
    (case z_abs => k_is)
    (case z_max => k_is)
    (case z_min => k_is)
    (case z_range => k_is)
    (case z_repr => k_is)
    (case z_list => k_is)
    (case z_enumerate => k_is)
    (case z_sum => k_is)
    (case z_divmod => k_is)
    (case z_sorted => k_is)
    (case z_zip => k_is)
    (case z_set => k_is)
    (case z_isinstance => k_is)
    (case z_bool => k_is)
    (case q_GREATEST_WEEK => k_is)
    (case q_GREATEST_SPEED => k_is)
    (case pgC => k_is)
    (case hdC => k_is)
    (case poC => k_is)
    (case saC => k_is)
    (case mkC => k_is)
    (case kcC => k_is)
    (case n_speeds => k_is)
    (case n_changes => k_is)
    (case sfC => k_is)
    (case aCD => k_is)
    (case tCD => k_is)
    (case dCD => k_is)
    (case aCW => k_is)
    (case tCW => k_is)
    (case dCW => k_is)
    (case aCS => k_is)
    (case tCS => k_is)
    (case dCS => k_is)
    (case aCN => k_is)
    (case tCN => k_is)
    (case dCN => k_is)
    (case aCC => k_is)
    (case tCC => k_is)
    (case dCC => k_is)
    (case aCU => k_is)
    (case tCU => k_is)
    (case dCU => k_is)
    (case bCD => k_is)
    (case xCW => k_is)
    (case sCW => k_is)
    (case bCW => k_is)
    (case kCW => k_is)
    (case vCW => k_is)
    (case iCW => k_is)
    (case gCW => k_is)
    (case hCW => k_is)
    (case lCW => k_is)
    (case mCW => k_is)
    (case xCS => k_is)
    (case sCS => k_is)
    (case bCS => k_is)
    (case kCS => k_is)
    (case vCS => k_is)
    (case iCS => k_is)
    (case gCS => k_is)
    (case hCS => k_is)
    (case lCS => k_is)
    (case mCS => k_is)
    (case xCN => k_is)
    (case sCN => k_is)
    (case bCN => k_is)
    (case kCN => k_is)
    (case vCN => k_is)
    (case iCN => k_is)
    (case gCN => k_is)
    (case hCN => k_is)
    (case lCN => k_is)
    (case mCN => k_is)
    (case uDCN => k_is)
    (case uCNCW => k_is)
    (case uCNCS => k_is)
    (case uCNCN => k_is)
    (case uCNCC => k_is)
    (case uCNCU => k_is)
    (case xCC => k_is)
    (case sCC => k_is)
    (case bCC => k_is)
    (case kCC => k_is)
    (case vCC => k_is)
    (case iCC => k_is)
    (case gCC => k_is)
    (case hCC => k_is)
    (case lCC => k_is)
    (case mCC => k_is)
    (case xCU => k_is)
    (case sCU => k_is)
    (case bCU => k_is)
    (case kCU => k_is)
    (case vCU => k_is)
    (case iCU => k_is)
    (case gCU => k_is)
    (case hCU => k_is)
    (case lCU => k_is)
    (case mCU => k_is)
    (case uDCU => k_is)
    (case uCUCW => k_is)
    (case uCUCS => k_is)
    (case uCUCN => k_is)
    (case uCUCC => k_is)
    (case uCUCU => k_is)
    (case icN => k_is)
    (case icT => k_is)
    (case lE => k_is)
    (case cE => k_is)
    (case kE => k_is)
    (case tE => k_is)
    (case icA => k_is)
    (case icM => k_is)

