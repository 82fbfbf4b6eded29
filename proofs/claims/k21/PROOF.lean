import PyProof.Rows.All
import Wide.All
import OpenK.AllK
import Wide.FinOn
import HandS.ForMost
import HandS.Codes
import HandS.Walk
import HandS.DictComp
import HandS.ListItems
import HandS.Property
import HandS.Wide
import HandS.Style
import HandS.More
import HandS.Defaults
import HandS.MakeKwOnly
import HandS.IsInst
import HandS.SetBool
import HandS.Strs
import HandS.Zip
import HandS.SetFor
import HandS.TryOnly
import HandS.Star
import HandS.Conv
import HandS.Defaults
import HandS.SortInts
import HandS.MakeKw
import HandS.DeepEq
import HandS.OwnEq
import HandS.Set
import HandS.SortOrd
import HandS.Codes
import HandS.Style
import HandS.Wide
import HandS.SortRule
import PyProof.SeqInW
import PySem.Challenge.RW_dueclocks_k21_rules_by_their_changes
set_option Elab.async false
set_option linter.all false
set_option maxRecDepth 100000
set_option maxHeartbeats 4000000
namespace DK
open PySem PySem.Spec PyProof.Rows L2

/-- a def that is only run where no repr is under way -/
structure FnG (P : Program) (w : World) (K : PySem.W.Frag) (mg : Str → Option Value) (b0 : Heap) (k : Nat) (f : Addr)
    (fd : FuncData) (ps : List Str) (sp : Sp) : Prop where
  size : ∀ vs H Q E, sp vs H Q E → vs.length = ps.length
  go : ∀ (B : Around) (stk : List Env) (s : Shared) (H : Hp) (ar : Args) (us : List Value) (vs : List V) (Q : VK) (E : XK),
    B.guards = some [] → Room k B → Env0 P w K mg b0 B stk s H → BindsTo s fd ar (ps.zip us) → Vals vs us → sp vs H Q E →
      codeAny (model P w) B (.call (.ref f) ar) (CR CX0 stk P w H s Q E) s

section
variable {P : Program} {w : World} {K : PySem.W.Frag} {mg : Str → Option Value} {b0 : Heap}

theorem okG {x qual : Str} {st : Stmt} {f : Addr} {fd : FuncData} {N ps : List Str} {k : Nat} {sp : Sp}
    (F : Fun K x qual st f fd) (S : FnScope N ps (defScope st)) (size : ∀ vs H Q E, sp vs H Q E → vs.length = ps.length)
    (body : ∀ (cdv : Value) (B : Around) (stk : List Env) (s : Shared) (H : Hp) (vs : List V) (Q : VK) (E : XK),
      B.guards = some [] → Room k (B.deeper (envOfC qual (defScope st) s.heap.objs.size f cdv)) → sp vs H Q E →
      ∃ t, PSs (cxOf CX0 P w K mg b0 N qual (defScope st) f cdv B stk s H E).nox (defBody st) t ∧
        t { nx := fun _ J => Q .non J, rt := Q } (start N vs) H) : FnG P w K mg b0 (k + 1) f fd ps sp := by
  obtain ⟨oc, od, kV, dc, pm, an, cv, ct, osl, rfl, hf, hcode⟩ := F.ex
  refine ⟨size, fun B stk s H ar us vs Q E hgd hr env hbi hv hs => ?_⟩
  have hlen := size _ _ _ _ hs
  have inK : K.In s.heap := env.mod.kin.keeps fun c u g => (env.bs c u g).1
  have noL : s.heap.NoLimit := env.mod.nolimit.keeps fun c u g => (env.bs c u g).1
  have kinds : ∀ z ∈ ps.zip us, (defScope st).names.lookup z.1 = some .local ∨
      ((defScope st).names.lookup z.1 = some .cell ∧
        ((cellsFrom (s.heap.objs.size + 1) (defScope st).names []).lookup z.1).isSome = true) := by
    rintro ⟨n, v⟩ hz
    rcases S.par n (List.of_mem_zip hz).1 with g | g
    · exact Or.inl g
    · exact Or.inr ⟨g, PySem.W.cellsFrom_some _ _ _ (Or.inl g)⟩
  refine codeAny_call_function hr.depth (inK _ _ hf) rfl S.co S.gen rfl (PySem.W.codeRec_of inK hcode) (hbi _ _ _ _ ?_)
  refine wpAny_newFunctionEnv_cells S.kind kinds fun en hen s2 inc => ?_
  subst hen
  refine ⟨noL.keeps inc.toInCall.keep, codeAny_func ?_⟩
  obtain ⟨t, ht0, hq⟩ := body cv B stk s H vs Q E hgd (hr.deeper _) hs
  have ht := ht0.nox
  have I : Inv (cxOf CX0 P w K mg b0 N qual (defScope st) f cv B stk s H E) [] (start N vs) H s2 := inv_start S hr.hd env hlen hv inc
  refine wpAny_mono (ht.run [] s2 (start N vs) H _ I hq) (fun fl s3 h3 => ?_) fun e s3 h3 => h3
  have close : ∀ {τ : L2.St} {J : Hp} {v : V} {u : Value}, Inv (cxOf CX0 P w K mg b0 N qual (defScope st) f cv B stk s H E) [] τ J s3 →
      RelV v u → Q v J → CE stk P w H s Q u s3 := fun {τ J v u} I3 rv q => ⟨v, J, I3.os, I3.bare, I3.base, I3.hok, rv, q⟩
  cases fl with
  | next =>
    obtain ⟨τ, J, I3, q⟩ := h3
    exact close (v := V.non) (u := Value.none) I3 rfl q
  | ret u =>
    obtain ⟨v, τ, J, I3, rv, q⟩ := h3
    exact close I3 rv q
  | cont =>
    obtain ⟨_, _, _, q⟩ := h3
    exact q.elim
  | brk =>
    obtain ⟨_, _, _, q⟩ := h3
    exact q.elim
end

section
variable {X : Cx}
/-- f(e, ..) of such a def -/
theorem pe_callG {k : Nat} {f : Addr} {fd : FuncData} {ps : List Str} {sp : Sp} {x : Str} {p pos : Pos} {e : Expr} {es : List Expr} {t : TA}
    (F : FnG X.prog X.w X.K X.mg X.base k f fd ps sp) (hgd : X.A.guards = some []) (hr : Room k X.A) (hg : Gl X x)
    (hm : X.mg x = some (.ref f)) (hk : PySem.W.keepIn X.K (.ref f) = true) (hb : Binds X.K fd ps []) (ha : PA X (e :: es) t)
    (hdb : (x == ("__debug__" : Str)) = false := by decide)
    (he : starEach (e :: es) X.env = (false, eval e X.env) :: starEach es X.env := by rfl)
    (hpl : (backTo pos (starEach es X.env)).any (·.1) = false := by rfl) :
    PE X (.Call (.Name x p) (e :: es) [] pos) (tCall sp [] E0 t) := by
  refine ⟨fun pins s σ H Q I h => ?_⟩
  refine wpAny_Call_Name_kw (ld_glob I hg hm ?_ hdb)
  refine PySem.W.callWith_K (h₀ := X.base) I.ok.mod.kin hk (thn (ha.run pos pins s σ H _ I h) fun us s1 hh => ?_) he hpl
  obtain ⟨vs, J, I1, r, q⟩ := hh
  refine ⟨I1.kIn, ?_⟩
  rw [List.append_nil] at q
  have hl : us.length = ps.length := r.length.symm.trans (F.size _ _ _ _ q)
  have bi := hb s1 us I1.kIn (by rw [List.append_nil]; exact hl)
  rw [List.append_nil] at bi
  refine wpAny_call (codeAny_mono (F.go X.A X.stack s1 J ⟨us, []⟩ us vs Q E0 hgd hr I1.env0 bi r q) fun res s2 hq => ?_)
  cases res with
  | error er => exact False.elim hq
  | ok fl =>
    cases fl with
    | ret u => exact I1.after hq
    | next => exact False.elim hq
    | brk => exact False.elim hq
    | cont => exact False.elim hq

/-- repr(x), x a list or a tuple of data -/
def rRepr (K : PySem.W.Frag) : List V → Hp → VK → Prop := fun xs H Q => ∃ (a : Addr) (d : PyData), xs = [.ref a] ∧ Dp K H (.ref a) d ∧
  d.showable = true ∧ d.hasDict = false ∧ d.depth ≤ 60 ∧ d.shown.length ≤ sizeLine ∧ Q (.str d.shown) H
theorem call_repr (hgd : X.A.guards = some []) (hu : X.A.units + 64 < cLine) : CallR X (.builtin "repr") (rRepr X.K) := by
  intro pins s σ H xs us Q I r h
  obtain ⟨a, d, rfl, hd, hs, hn, hdp, hz, q⟩ := h
  cases r with
  | cons r1 r2 =>
    cases r2
    rename_i u
    obtain rfl : u = Value.ref a := r1
    obtain ⟨as, rd⟩ := Dp.reads I d _ _ hd (show RelV (V.ref a) (Value.ref a) from rfl)
    refine repr_of_reads' rd hs (PyData.noDict_hsm hn) hgd (by omega) (fun _ _ e => e) (fun h' u tk hk => ?_) hz
    exact ⟨.str d.shown, H, I.kept hk, ⟨u, rfl⟩, q⟩
end

/-- what is hidden of the heap behind the top: the script alone, where it is not the module's own -/
structure Veil (P : Program) (w : World) (K : PySem.W.Frag) (h : Heap) (a : Addr) (ns : List Int) (H : Hp) : Prop where
  only : Only H
  at_ : SqL K H a (ns.map V.int)
  ok : HOk P w H h
  one : ∀ c, H c ≠ none → c = a
  out : H a ≠ none → K.lookup a = none

theorem veil_of {P : Program} {w : World} {K : PySem.W.Frag} {h : Heap} {a : Addr} {us : List Value} {ns : List Int} (inK : K.In h)
    (ha : h.get? a = some { cls := .type "list", data := .seq us.toArray }) (hi : IntsAre us ns) (hz : ns.length ≤ sizeLine) :
    ∃ H, Veil P w K h a ns H := by
  have rv := vals_ints hi
  cases hk : K.lookup a with
  | some o =>
    have e := (inK a o hk).symm.trans ha
    cases e
    refine ⟨fun _ => none, fun _ => Or.inl rfl, Or.inr ⟨_, us.toArray, _, hk, rfl, rfl, rfl, ?_, ?_⟩, fun c u z => ?_, fun c z => absurd rfl z, fun z => absurd rfl z⟩
    · rw [List.size_toArray, hi.length]
      exact hz
    · simpa using rv
    · exact nomatch (show (none : Option HO) = some u from z)
  | none =>
    let O : Obj := { cls := .type "list", data := .seq us.toArray }
    let H : Hp := fun c => if c = a then some (.frz O (.lst (ns.map V.int))) else none
    have hA : H a = some (.frz O (.lst (ns.map V.int))) := if_pos rfl
    have hN : ∀ c, c ≠ a → H c = none := fun c g => if_neg g
    refine ⟨H, fun c => ?_, Or.inl (Or.inr ⟨O, hA⟩), fun c u z => ?_, fun c z => ?_, fun _ => hk⟩
    · by_cases g : c = a
      · subst g
        exact Or.inr ⟨_, _, hA⟩
      · exact Or.inl (hN c g)
    · by_cases g : c = a
      · subst g
        have z2 := hA.symm.trans z
        cases z2
        refine ⟨ha, ?_, us, _, rv, ha⟩
        rw [List.length_map]
        exact hz
      · exact nomatch (hN c g).symm.trans z
    · by_cases g : c = a
      · exact g
      · exact absurd (hN c g) z

theorem lawG {P : Program} {w : World} {K : PySem.W.Frag} {mg mb : Str → Option Value} {k : Nat} {fa a : Addr} {fd : FuncData} {x : Str} {sp : Sp} {s : Shared} {us : List Value} {ns : List Int}
    (inK : K.In s.heap) (hmg : s.heap.Ns mainGlobals mg) (hmb : s.heap.Ns builtinsNs mb) (hbo : ∀ y : Str, y ≠ "__name__" → mb y = bootBuiltins y)
    (noL : s.heap.NoLimit) (gen : s.gens = #[]) (ha : s.heap.get? a = some { cls := .type "list", data := .seq us.toArray })
    (hi : IntsAre us ns) (hz : ns.length ≤ sizeLine) (hr : Room k callerA)
    (F : ∀ b0 : Heap, K.In b0 → b0.Ns mainGlobals mg → FnG P w K mg b0 k fa fd [x] sp)
    (bind : ∀ (t : Shared) (u : Value), BindsTo t fd ⟨[u], []⟩ [(x, u)])
    (hsp : ∀ H : Hp, Only H → SqL K H a (ns.map V.int) → sp [.ref a] H (fun v _ => v = .bl true) E0) :
    codeAny (model P w) callerA (.call (.ref fa) ⟨[.ref a], []⟩)
      (fun r t => r = .ok (.ret (.bool true)) ∧ OldK s.heap t.heap ∧ t.os = s.os ∧ AllBare t.gens) s := by
  obtain ⟨H, W⟩ := veil_of (P := P) (w := w) inK ha hi hz
  have through : ∀ {c : Addr} {o : Obj}, s.heap.get? c = some o → H c = none → (hidT s.heap H).get? c = some o := fun g n => hidT_get g n
  have dicts : ∀ {c : Addr} {o : Obj} {es : Array DictEntry} {ep : Nat}, s.heap.get? c = some o → o.data = .dict es ep → H c = none := by
    intro c o es ep g d
    by_cases n : H c = none
    · exact n
    · have := W.one c n
      subst this
      rw [ha] at g
      cases g
      exact nomatch d
  have names : ∀ {c : Addr} {m : Str → Option Value}, s.heap.Ns c m → (hidT s.heap H).Ns c m := fun {c m} ⟨o, es, ep, g, d, r⟩ => ⟨o, es, ep, through g (dicts g d), d, r⟩
  have inB : K.In (hidT s.heap H) := by
    intro c o g
    refine through (inK c o g) ?_
    by_cases n : H c = none
    · exact n
    · have e := W.one c n
      subst e
      rw [W.out n] at g
      exact nomatch g
  have md : Mod K mg (hidT s.heap H) := ⟨inB, names hmg, ⟨mb, names hmb, hbo⟩, noL.elim fun mc q => ⟨mc, names q.1, q.2⟩⟩
  have nil : ∀ c : Addr, c ∉ ([] : List Addr) := fun c q => nomatch q
  have env : Env0 P w K mg (hidT s.heap H) callerA [] s H :=
    ⟨rfl, md, fun c o g => of_hidT g, Nat.le_of_eq (hidT_size _ _), trivial, fun c q => absurd q (nil c), W.ok, .of_eq gen⟩
  refine codeAny_mono ((F _ inB (names hmg)).go callerA [] s H ⟨[.ref a], []⟩ [.ref a] [.ref a] _ _ rfl hr env (bind s (.ref a)) (.cons rfl .nil) (hsp H W.only W.at_)) fun r t q => ?_
  rcases r with er | fl
  · exact False.elim q
  · rcases fl with _ | _ | _ | u
    iterate 3 exact False.elim q
    · obtain ⟨v, H', os, bare, un, ok2, rv, rfl⟩ := q
      obtain rfl : u = Value.bool true := rv
      refine ⟨rfl, OldK.of_keep fun c o g => ?_, os, bare⟩
      by_cases n : H c = none
      · exact un.keep c o g n (fun z => absurd z (nil c)) (nil c)
      · rcases W.only c with z | ⟨O, xs, z⟩
        · exact absurd z n
        · have e1 := (W.ok c _ z).1
          have e2 := (ok2 c _ (un.frzs c O _ z)).1
          rw [g] at e1
          cases e1
          exact e2
/-- the end of a law row -/
theorem walkG {l : PySem.W.OpenLaw} {n k : Nat} {q : Program} {loose : List Str} {XP : (Str → Option Value) → Heap → Prop} {YP : World → Heap → Prop} {d : DefRec} {K : Params → PySem.W.Frag} {sp : PySem.W.Frag → Sp} {x : Str}
    (hn : l.most = some n) (hn2 : n ≤ sizeLine) (hdf : d.params.defaults = []) (hr : Room k callerA)
    (hY : ∀ (w : World) (h : Heap), YP w h → (K w.params).In h)
    (F : ∀ (w : World) (mg : Str → Option Value) (fa : Addr) (h : Heap), (K w.params).In h → h.Ns mainGlobals mg → mg d.name = some (.ref fa) →
      ∃ fd : FuncData, (∀ (t : Shared) (u : Value), BindsTo t fd ⟨[u], []⟩ [(x, u)]) ∧
        ∀ b0 : Heap, (K w.params).In b0 → b0.Ns mainGlobals mg → FnG l.prog w (K w.params) mg b0 k fa fd [x] (sp (K w.params)))
    (hsp : ∀ (J : PySem.W.Frag) (H : Hp) (a : Addr) (ns : List Int), ns.length ≤ n → Only H → SqL J H a (ns.map V.int) → sp J [.ref a] H (fun v _ => v = .bl true) E0) :
    PySem.W.WalkO q loose XP YP l.row.toRowW d [] (fun f vs => PySem.call f vs) := by
  refine Att.attach_call hn hdf fun w s₀ s₁ mg mb fa o pm cd doc a vs ns G Y ho hd hcd hmg hobj hints hlen hg => ?_
  have inK := hY w _ Y
  obtain ⟨fd, bi, hF⟩ := F w mg fa _ inK G.T.g hmg
  exact lawG inK G.T.g G.T.b G.T.builtins G.T.nolimit hg hobj hints (Nat.le_trans hlen hn2) hr hF bi fun H hO hS => hsp _ H a ns hlen hO hS
def top (i : Nat) : Stmt := PySem.Challenge.pw_dueclocks_k21_rules_by_their_changes.main.body.getD i (.Pass ⟨0, 0, 0, 0⟩)
abbrev sTold : Stmt := top 36
abbrev sLaw : Stmt := top 41
abbrev sErr : Stmt := inClass (top 2) 0
abbrev sAmount : Stmt := top 12
abbrev sWeeks : Stmt := top 11
abbrev sNearness : Stmt := top 21
abbrev sNearest : Stmt := top 22
abbrev sChanged : Stmt := top 20
abbrev sChkWeek : Stmt := top 10
abbrev sBehind : Stmt := top 13
abbrev sRight : Stmt := top 40
abbrev sUpto : Stmt := top 15
abbrev sTelling : Stmt := top 16
abbrev sLanes : Stmt := top 17
abbrev sLaneI : Stmt := inClass (top 18) 0
abbrev sLaneOff : Stmt := inClass (top 18) 1
abbrev sLaneLat : Stmt := inClass (top 18) 2
abbrev sBeside : Stmt := top 23
abbrev sAscend : Stmt := top 25
abbrev sRising : Stmt := top 26
abbrev sRuI : Stmt := inClass (top 30) 0
abbrev sRuWeek : Stmt := inClass (top 30) 4
abbrev sRuBase : Stmt := inClass (top 30) 5
abbrev sRuChanges : Stmt := inClass (top 30) 6
abbrev sRuOff : Stmt := inClass (top 30) 7
abbrev sRuAns : Stmt := inClass (top 30) 8
abbrev sRuLat : Stmt := inClass (top 30) 9
abbrev sRuCall : Stmt := inClass (top 30) 10
abbrev sRuHas : Stmt := inClass (top 30) 11
abbrev sRuEq : Stmt := inClass (top 30) 12
abbrev sRuDelay : Stmt := inClass (top 30) 3
abbrev sPool : Stmt := top 32
abbrev sDraw : Stmt := top 33
abbrev sRisingL : Stmt := top 35
abbrev sShape : Stmt := top 37
abbrev sOffL : Stmt := top 34
abbrev sNeeded : Stmt := top 39
abbrev sPlan : Stmt := top 38
abbrev sRuOr : Stmt := inClass (top 30) 14
abbrev sRuAnd : Stmt := inClass (top 30) 15
abbrev sRuShr : Stmt := inClass (top 30) 13
abbrev sJoint : Stmt := top 27
abbrev sPassing : Stmt := top 28
abbrev sLatestCh : Stmt := top 29
abbrev sRuInv : Stmt := inClass (top 30) 16
abbrev sRuMul : Stmt := inClass (top 30) 17
abbrev sRuRmul : Stmt := inClass (top 30) 18
/-! ### the well -/
def Fr (p : Addr) (H H' : Hp) : Prop := ∀ b o, H b = some o → b ≠ p → H' b = some o
theorem Fr.refl (p : Addr) (H : Hp) : Fr p H H := fun _ _ h _ => h
theorem Fr.trans {p : Addr} {H H1 H2 : Hp} (a : Fr p H H1) (b : Fr p H1 H2) : Fr p H H2 := fun c o h g => b c o (a c o h g) g
theorem Fr.of {p : Addr} {H H' : Hp} (a : Same H H') : Fr p H H' := fun c o h _ => a c o h
theorem Fr.at_ {p : Addr} {o : HO} {H : Hp} : Fr p H (upd H p o) := fun b u h g => by
  rw [upd_ne g]
  exact h
theorem Fr.new {p q : Addr} {o : HO} {H : Hp} (h : H q = none) : Fr p H (upd H q o) := fun b u e _ => by
  rw [upd_ne (ne_of_none e h)]
  exact e
theorem Fr.seq {K : PySem.W.Frag} {p a : Addr} {H H' : Hp} {xs : List V} (f : Fr p H H') (g : a ≠ p) (h : SqL K H a xs) : SqL K H' a xs := by
  rcases h with (h | ⟨o, h⟩) | h
  · exact .inl (.inl (f _ _ h g))
  · exact .inl (.inr ⟨o, f _ _ h g⟩)
  · exact .inr h
theorem same_new {H : Hp} {q : Addr} {o : HO} (h : H q = none) : Same H (upd H q o) := fun b u e => by
  rw [upd_ne (ne_of_none e h)]
  exact e
/-- a well at p, from which n or fewer draws were mixed -/
def Well (H : Hp) (p : Addr) (n : Nat) : Prop := ∃ a b c : Int, H p = some (.lst [.int a, .int b, .int c]) ∧ 0 ≤ b ∧ b < 2 ^ 62 ∧ 0 ≤ c ∧ c ≤ n
theorem Well.mono {H : Hp} {p : Addr} {n m : Nat} (h : Well H p n) (g : n ≤ m) : Well H p m := by
  obtain ⟨a, b, c, h1, h2, h3, h4, h5⟩ := h
  exact ⟨a, b, c, h1, h2, h3, h4, by omega⟩
theorem Well.same {H H' : Hp} {p : Addr} {n : Nat} (h : Well H p n) (g : Same H H') : Well H' p n := by
  obtain ⟨a, b, c, h1, h2⟩ := h
  exact ⟨a, b, c, g _ _ h1, h2⟩
theorem Well.new {H : Hp} {p q : Addr} {n : Nat} {o : HO} (h : Well H p n) (g : H q = none) : Well (upd H q o) p n := h.same (same_new g)
theorem Well.upd_ne {H : Hp} {p q : Addr} {n : Nat} {o : HO} (h : Well H p n) (g : p ≠ q) : Well (upd H q o) p n := by
  obtain ⟨a, b, c, h1, h2⟩ := h
  exact ⟨a, b, c, by rw [L2.upd_ne g]; exact h1, h2⟩
theorem Well.ne {H : Hp} {p q : Addr} {n : Nat} (h : Well H p n) (g : H q = none) : p ≠ q := by
  obtain ⟨a, b, c, h1, h2⟩ := h
  exact ne_of_none h1 g
/-- the built-in names are still the built-in ones -/
structure Blt (mg : Str → Option Value) : Prop where
  int : mg "int" = none
  len : mg "len" = none
  abs : mg "abs" = none
  max : mg "max" = none
  min : mg "min" = none
  range : mg "range" = none
  repr : mg "repr" = none
  list : mg "list" = none
theorem set0 (a b c v : V) : ([a, b, c] : List V).set 0 v = [v, b, c] := rfl
theorem set2 (a b c v : V) : ([a, b, c] : List V).set 2 v = [a, b, v] := rfl

/-! ### lists of numbers -/
theorem atI_ints {xs : List Int} {i : Int} (h0 : 0 ≤ i) (h1 : i < xs.length) : ∃ v, v ∈ xs ∧ xs[i.toNat]? = some v ∧ atI (xs.map V.int) i = some (.int v) := by
  obtain ⟨j, rfl⟩ : ∃ j : Nat, i = (j : Int) := ⟨i.toNat, by omega⟩
  have hj : j < xs.length := by omega
  refine ⟨xs[j], List.getElem_mem hj, by simp [hj], atI_nat (j := j) ?_⟩
  rw [List.getElem?_map, List.getElem?_eq_getElem hj]
  rfl

/-! ### the changes that a law draws: tuples of a moment and a speed -/
def Tups (H : Hp) : List Addr → List (Int × Int) → Prop
  | [], [] => True
  | t :: ts, m :: ms => H t = some (.tup [.int m.1, .int m.2]) ∧ Tups H ts ms
  | _, _ => False
theorem Tups.len {H : Hp} : ∀ {ts : List Addr} {ms : List (Int × Int)}, Tups H ts ms → ts.length = ms.length
  | [], [], _ => rfl
  | _ :: _, _ :: _, h => by
    rw [List.length_cons, List.length_cons, Tups.len h.2]
theorem Tups.imp {H H' : Hp} : ∀ {ts : List Addr} {ms : List (Int × Int)}, (∀ t xs, H t = some (.tup xs) → H' t = some (.tup xs)) → Tups H ts ms → Tups H' ts ms
  | [], [], _, _ => trivial
  | _ :: _, _ :: _, f, h => ⟨f _ _ h.1, Tups.imp f h.2⟩
theorem Tups.same {H H' : Hp} {ts : List Addr} {ms : List (Int × Int)} (h : Tups H ts ms) (f : Same H H') : Tups H' ts ms := h.imp fun _ _ e => f _ _ e
theorem Tups.fr {H H' : Hp} {p : Addr} {n : Nat} {ts : List Addr} {ms : List (Int × Int)} (h : Tups H ts ms) (w : Well H p n) (f : Fr p H H') : Tups H' ts ms := h.imp fun t xs e => f _ _ e fun z => by
  obtain ⟨a, b, c, g, _⟩ := w
  rw [z, g] at e
  cases e
theorem Tups.put {H : Hp} {q : Addr} {ys : List V} {o : HO} {ts : List Addr} {ms : List (Int × Int)} (h : Tups H ts ms) (g : H q = some (.lst ys)) : Tups (upd H q o) ts ms := h.imp fun t xs e => by
  rw [upd_ne (fun z => by rw [z, g] at e; cases e)]
  exact e
theorem Tups.snoc {H : Hp} {t : Addr} {m : Int × Int} : ∀ {ts : List Addr} {ms : List (Int × Int)}, Tups H ts ms → H t = some (.tup [.int m.1, .int m.2]) → Tups H (ts ++ [t]) (ms ++ [m])
  | [], [], _, g => ⟨g, trivial⟩
  | _ :: _, _ :: _, h, g => ⟨h.1, Tups.snoc h.2 g⟩
theorem Tups.get {H : Hp} : ∀ {ts : List Addr} {ms : List (Int × Int)} {i : Nat} {t : Addr}, Tups H ts ms → ts[i]? = some t → ∃ m, ms[i]? = some m ∧ H t = some (.tup [.int m.1, .int m.2])
  | _ :: _, m :: _, 0, t, h, e => by
    obtain rfl := Option.some.inj e
    exact ⟨m, rfl, h.1⟩
  | _ :: _, _ :: _, i + 1, t, h, e => Tups.get (i := i) h.2 e

/-- len of a list or a tuple, told by the written part -/
def rLen (K : PySem.W.Frag) : List V → Hp → VK → Prop := fun vs H Q => ∃ (p : Addr) (ys : List V), vs = [.ref p] ∧
  (SqL K H p ys ∨ SqT K H p ys) ∧ Q (.int (ys.length : Nat)) H

structure At (P : Program) (w : World) (K : PySem.W.Frag) (mg : Str → Option Value) (base : Heap) (k : Nat) (x : Str) (ps : List Str) (sp : Sp) (f : Addr) (fd : FuncData) : Prop where
  ok : FnOk P w K mg base CX0 k f fd ps sp
  at_ : mg x = some (.ref f)
  kp : PySem.W.keepIn K (.ref f) = true
  bi : Binds K fd ps []

structure Pp (P : Program) (w : World) (K : PySem.W.Frag) (mg : Str → Option Value) (base : Heap) (C : Addr) (x : Str) (sp : Sp) (p g : Addr) (fd : FuncData) : Prop where
  of : PropOf K C x p g
  ok : FnOk P w K mg base CX0 1 g fd ["self"] sp
  bi : Binds K fd ["self"] []

/-- what stands behind x[i], i in x of an own class -/
structure Own (K : PySem.W.Frag) (C : Addr) (m : Str) (f : Addr) : Prop where
  at_ : PySem.W.findIn K (.ref C) m = some (some (.ref f))
  fn : PySem.W.isFn K (.ref f) = true
  fi : PySem.W.fnIn K f = true

/-! ### what a week and changes are checked for -/
/-- whether a change stands behind the one ahead of it -/
def behind (ms : List (Int × Int)) (i : Nat) : Bool := decide (i = 0) || decide ((ms.getD (i - 1) (0, 0)).1 < (ms.getD i (0, 0)).1)
structure ConW (mg : Str → Option Value) : Prop where
  gw : ∃ t, mg "GREATEST_WEEK" = some (.int 12 t)
def spChkW : Sp := fun vs H Q _ => ∃ n : Int, vs = [.int n] ∧ 1 ≤ n ∧ n ≤ 12 ∧ Q .non H
def spBehind (K : PySem.W.Frag) : Sp := fun vs H Q _ => ∃ (a : Addr) (ts : List Addr) (ms : List (Int × Int)) (i : Nat), vs = [.ref a, .int (i : Int)] ∧ SqL K H a (ts.map V.ref) ∧ Tups H ts ms ∧ i < ms.length ∧ Q (.bl (behind ms i)) H
section
variable {P : Program} {w : World} {K : PySem.W.Frag} {mg : Str → Option Value} {base : Heap}
theorem scChkW : FnScope ["number"] ["number"] (defScope sChkWeek) := ⟨rfl, rfl, rfl, by decide +kernel, rfl, by decide +kernel, by decide +kernel⟩
theorem ok_chkW {f : Addr} {fd : FuncData} (F : Fun K "check_week" "check_week" sChkWeek f fd) (C : ConW mg) : FnOk P w K mg base CX0 1 f fd ["number"] spChkW := by
  refine F.ok scChkW (fun vs H Q E h => ?_) (fun cdv A outer s H vs Q E hr h => ?_)
  · obtain ⟨n, rfl, _⟩ := h
    rfl
  · obtain ⟨n, rfl, n1, n2, q⟩ := h
    obtain ⟨t, ht⟩ := C.gw
    refine ⟨_, pss_one (ps_if (pt_not (pt_chain op_le op_le pe_int (pv 0) (pe_glob (v := .int 12) (by rfl) ht ⟨t, rfl⟩))) (pss_one ps_never) pss_nil), ?_⟩
    refine ⟨_, rfl, _, _, rfl, rfl, _, rfl, ite2 (fun g => ?_) (fun g => absurd (decide_eq_true (by omega)) g)⟩
    refine ⟨_, _, rfl, rfl, _, rfl, ite2 (fun g2 => absurd g2 ?_) (fun _ => q)⟩
    rw [decide_eq_true (by omega)]
    decide
theorem scBehind : FnScope ["changes", "index"] ["changes", "index"] (defScope sBehind) := ⟨rfl, rfl, rfl, by decide +kernel, rfl, by decide +kernel, by decide +kernel⟩
theorem behind_fit {ms : List (Int × Int)} {i : Nat} (h : ms.Pairwise fun a b => a.1 < b.1) (hi : i < ms.length) : behind ms i = true := by
  unfold behind
  cases i with
  | zero => rfl
  | succ j =>
    have lt := List.pairwise_iff_getElem.mp h j (j + 1) (by omega) hi (by omega)
    simp only [Nat.add_sub_cancel]
    rw [List.getD_eq_getElem?_getD, List.getD_eq_getElem?_getD, List.getElem?_eq_getElem hi, List.getElem?_eq_getElem (by omega : j < ms.length)]
    simp [lt]
theorem ok_behind {f : Addr} {fd : FuncData} (F : Fun K "is_behind" "is_behind" sBehind f fd) : FnOk P w K mg base CX0 1 f fd ["changes", "index"] (spBehind K) := by
  refine F.ok scBehind (fun vs H Q E h => ?_) (fun cdv A outer s H vs Q E hr h => ?_)
  · obtain ⟨a, ts, ms, i, rfl, _⟩ := h
    rfl
  · obtain ⟨a, ts, ms, i, rfl, hS, tp, hi, q⟩ := h
    refine ⟨_, pss_one (ps_ret (pe_or (pe_cmpR op_eq (pv 1) pe_int (nomark _)) (pe_one (pe_cmpR op_lt
      (pe_ix ix_tup (pe_ix ix_list (pv 0) (pe_op op_sub (pv 1) pe_int) (fun _ _ => rfl)) pe_int (fun _ _ => rfl))
      (pe_ix ix_tup (pe_ix ix_list (pv 0) (pv 1) (fun _ _ => rfl)) pe_int (fun _ _ => rfl)) (nomark _))))), ?_⟩
    have tl := tp.len
    have ez : decide (V.int (i : Int) = V.int 0) = decide (i = 0) := by
      rw [decide_eq_decide]
      exact ⟨fun e => by injection e with e; omega, fun e => by rw [e]; rfl⟩
    refine ⟨_, rfl, rfl, _, rfl, ?_⟩
    rw [ez]
    cases i with
    | zero => exact q
    | succ j =>
      have hj : j < ts.length := by omega
      have hj1 : j + 1 < ts.length := by omega
      obtain ⟨m', hm', hm2'⟩ := tp.get (List.getElem?_eq_getElem hj)
      obtain ⟨m, hm, hm2⟩ := tp.get (List.getElem?_eq_getElem hj1)
      have ej : (((j + 1 : Nat) : Int) - 1) = (j : Nat) := by omega
      refine ⟨_, rfl, _, rfl, _, _, rfl, rfl, a, _, _, _, rfl, rfl, hS, at_of (j := j) (v := V.ref ts[j]) ej (by rw [List.getElem?_map, List.getElem?_eq_getElem hj]; rfl), ts[j], _, 0, _, rfl, rfl, SqT.of hm2', atI_nat (j := 0) rfl,
        _, rfl, _, rfl, a, _, _, _, rfl, rfl, hS, atI_nat (j := j + 1) (v := V.ref ts[j + 1]) (by rw [List.getElem?_map, List.getElem?_eq_getElem hj1]; rfl), ts[j + 1], _, 0, _, rfl, rfl, SqT.of hm2, atI_nat (j := 0) rfl, _, _, rfl, rfl, ?_⟩
      have e : behind ms (j + 1) = decide (m'.1 < m.1) := by
        unfold behind
        simp only [Nat.add_sub_cancel]
        rw [List.getD_eq_getElem?_getD, List.getD_eq_getElem?_getD, hm, hm']
        simp
      rw [e] at q
      exact q
end

/-! ### {e for x in ..} of ints -/
/-- the reading: as of a list's, the new set at D, what it has and how many -/
def tScI (w : World) (wi : TI) (g : TG) (tt : TT) (te : TE) (vs : List Nat) : TE := fun σ H Q =>
  wi σ H fun J Ha => ∀ D, Ha D = none → ∃ Wk : Nat → Nat → Hp → Prop, (∃ m, Wk 0 m (upd Ha D (SetO w D (fun _ => false) 0))) ∧
    ∀ i m Hb, Wk i m Hb → (J.stop i Hb ∧ Q (.ref D) Hb) ∨
      (J.go i Hb ∧ ∃ Go : Hp → Prop, (∀ Hc, Go Hc → ∃ m', m' < m ∧ Wk (i + 1) m' Hc) ∧
        ∀ x Hc, J.yld i Hb x Hc → g x (wipe σ vs) Hc fun τ Hd => wipe τ vs = wipe σ vs ∧ tt τ Hd fun b He =>
          if b = true then te τ He fun y Hf => ∃ (c : Int) (S : Int → Bool) (n : Nat), y = .int c ∧ Hf D = some (SetO w D S n) ∧ n + 1 < scanBound ∧
            Go (upd Hf D (SetO w D (fun j => S j || decide (j = c)) (if S c = true then n else n + 1))) else Go He)
section
variable {X : Cx}
theorem addI_ok {pins : List (Addr × Obj)} {τ : L2.St} {H : Hp} {s : Shared} {E : Value → Shared → Prop} {D : Addr} {S : Int → Bool} {n : Nat} {c : Int} {tk : Tok} {Q : Value → Shared → Prop}
    (I : Inv X pins τ H s) (at_ : H D = some (SetO X.w D S n)) (room : n + 1 < scanBound)
    (q : ∀ s', Inv X pins τ (upd H D (SetO X.w D (fun j => S j || decide (j = c)) (if S c = true then n else n + 1))) s' → Q .none s') :
    wpAny (model X.prog X.w) X.A (call (.builtin "set.add") [.ref D, .int c tk]) Q E s := by
  refine setR_add (setO_get I at_) room fun h' same fresh => ?_
  have there : ∃ u, h'.get? D = some u := let ⟨o, _, _, _, e, _⟩ := fresh; ⟨o, e⟩
  exact q _ (I.write (e := D) (t' := s.toks + 1) (by rw [at_]; trivial) (.inl rfl) (fun b u ne e => (same.2 b ne).trans e) there (setO_new fresh))
end

section
variable {X : Cx}
open PpSet in
theorem pe_scI {el tgt src : Expr} {conds : List Expr} {sc : Scope} {own : List (PySem.Str × Nat)} {pos : Pos} {wi : TI} {g : TG} {tt : TT} {te : TE} (calm : X.calm = true) (nd : X.N.Nodup)
    (walks : PI X tgt src wi) (blk : BlkOk X.N X.env.scope sc own)
    (gs : ∀ (s : Shared) (H : Hp) (C : Addr) (cl : List (PySem.Str × Addr)) (fp : List Addr), PG (X.blk s H sc (compEnvC sc cl C X.env) fp) tgt g)
    (cs : ∀ (s : Shared) (H : Hp) (C : Addr) (cl : List (PySem.Str × Addr)) (fp : List Addr), PTs (X.blk s H sc (compEnvC sc cl C X.env) fp) conds tt)
    (es : ∀ (s : Shared) (H : Hp) (C : Addr) (cl : List (PySem.Str × Addr)) (fp : List Addr), PE (X.blk s H sc (compEnvC sc cl C X.env) fp) el te)
    (src0 : ∀ x, foldedSetIterable src X.env x = pure x := by intro _; rfl) :
    PE X (.SetComp el [⟨tgt, src, conds, 0⟩] sc pos) (tScI X.w wi g tt te (own.map (·.2))) := by
  refine ⟨fun pins s0 σ Hz Q Iz reading => ?_⟩
  rw [eval_SetComp]
  have cells : ∀ y ∈ sc.names, y.2 = .free → ∃ c, X.env.cells.lookup y.1 = some c := fun y my ey =>
    (blk.free y my ey).elim (fun k => Iz.ok.has _ (.inl k)) (fun k => Iz.ok.has _ (.inr k))
  refine wpAny_comprehension_free (use := none) rfl src0 (closure_ok cells) blk.kind (fun y my ey => by rw [blk.uniq y my, ey]) (thn (walks.run pins s0 σ Hz _ Iz reading) fun _ sa gotIter => thn gotIter fun _ sb got => ?_)
  obtain ⟨it, fp, tn, J, Ha, rfl, Ia, T, sta, freeA, q⟩ := got
  refine newSet_ok (newEnv_comp ?_)
  -- the set's place, and the state that has it
  generalize place : sb.heap.objs.size = D
  have none0 : Ha D = none := Ia.hok.fresh (Nat.le_of_eq place)
  obtain ⟨Wk, ⟨m0, w0⟩, turn⟩ := q D none0
  have sized : ∀ b ∈ fp, b < sb.heap.objs.size := fun b mb => let ⟨_, e, _⟩ := T.obj _ _ sta b mb; Heap.lt_size e
  generalize pushed : ({ sb with heap := sb.heap.push { cls := .type "set", dict := none, data := .set #[] 0 (.fresh 0 0 (!X.w.params.followText "set-order")) } } : Shared) = sd
  have heapd : sd.heap = sb.heap.push { cls := .type "set", dict := none, data := .set #[] 0 (.fresh 0 0 (!X.w.params.followText "set-order")) } := by rw [← pushed]
  have Id : Inv X pins σ (upd Ha D (SetO X.w D (fun _ => false) 0)) sd := by
    rw [← pushed, ← place]
    exact Ia.laid (t' := sb.toks) (fun b o e => Heap.get?_push_of_some _ e) (Nat.le_refl _) (setO_new (setR_fresh X.w))
  have freeD : ∀ b ∈ fp, FpOk X pins (upd Ha D (SetO X.w D (fun _ => false) 0)) b ∧ b < sd.heap.objs.size := fun b mb => by
    have lt := sized b mb
    refine ⟨⟨by rw [upd_ne (by rw [← place]; exact Nat.ne_of_lt lt)]; exact (freeA b mb).1, (freeA b mb).2⟩, ?_⟩
    rw [heapd, Heap.size_push]
    exact Nat.lt_succ_of_lt lt
  have std : tn 0 sd.heap := T.keep _ _ _ sta fun b _ o e => by rw [heapd]; exact Heap.get?_push_of_some _ e
  have Ie := block_start Id blk nd freeD
  have pg := gs sd (upd Ha D (SetO X.w D (fun _ => false) 0)) sd.heap.objs.size (cellsFrom (sd.heap.objs.size + 1) sc.names (cloFrom X.env.cells sc.names [])) fp
  have pt := cs sd (upd Ha D (SetO X.w D (fun _ => false) 0)) sd.heap.objs.size (cellsFrom (sd.heap.objs.size + 1) sc.names (cloFrom X.env.cells sc.names [])) fp
  have pe := es sd (upd Ha D (SetO X.w D (fun _ => false) 0)) sd.heap.objs.size (cellsFrom (sd.heap.objs.size + 1) sc.names (cloFrom X.env.cells sc.names [])) fp
  show codeAny _ _ (.compStart (.SetComp el [⟨tgt, src, conds, 0⟩] sc pos) 0 (.ref it) (.ref D) (compEnvC sc (cellsFrom (sd.heap.objs.size + 1) sc.names (cloFrom X.env.cells sc.names [])) sd.heap.objs.size X.env)) (compPost (model X.prog X.w) X.A X.xe none (EP X pins σ Q) (.ref D) sd.heap.objs.size) { sd with heap := pushCells (sd.heap.push { cls := .type "dict", data := .dict #[] }) sc.names }
  have apart : ∀ b ∈ fp, (upd Ha D (SetO X.w D (fun _ => false) 0)) b = none := fun b mb => (freeD b mb).1.1
  generalize envIs : compEnvC sc (cellsFrom (sd.heap.objs.size + 1) sc.names (cloFrom X.env.cells sc.names [])) sd.heap.objs.size X.env = ce at Ie pg pt pe ⊢
  have local_ : ce.locals = sd.heap.objs.size := by rw [← envIs]; rfl
  generalize upd Ha D (SetO X.w D (fun _ => false) 0) = Hd at Id Ie pg pt pe w0 apart freeD
  generalize blockIs : ({ sd with heap := pushCells (sd.heap.push { cls := .type "dict", data := .dict #[] }) sc.names } : Shared) = se at Ie ⊢
  have ste : tn 0 se.heap := T.keep _ _ _ std fun b _ o e => by rw [← blockIs]; exact pushCells_keeps _ _ _ _ (Heap.get?_push_of_some _ e)
  have still : ∀ {τ : L2.St} {H' : Hp} {s' : Shared}, Inv (X.blk sd Hd sc ce fp) [] τ H' s' → (∀ b ∈ fp, H' b = none) → ∀ b ∈ fp, FpOk (X.blk sd Hd sc ce fp) [] H' b := fun {τ H' s'} I' free b mb =>
    ⟨free b mb, (I'.ok.exf b mb).1, I'.ok.exfs b mb, .inl mb, fun _ c e => (I'.ok.exf b mb).2 _ c e, fun p mp => absurd (show p ∈ ([] : List (Addr × Obj)) ++ [] from mp) (by simp)⟩
  have loop : codeAny (model X.prog X.w) X.A (.compLoop (.SetComp el [⟨tgt, src, conds, 0⟩] sc pos) 0 (.ref it) (.ref D) ce) (compPost (model X.prog X.w) X.A X.xe none (EP X pins σ Q) (.ref D) sd.heap.objs.size) se := by
    refine compLoopS_any (fun k s' => ∃ i H', Inv (X.blk sd Hd sc ce fp) [] (wipe σ (own.map (·.2))) H' s' ∧ tn i s'.heap ∧ (∀ b ∈ fp, H' b = none) ∧ Wk i k H') ?_ m0 ⟨0, Hd, Ie, ste, apart, w0⟩
    rintro k sf ⟨i, Hf, If, stf, freeF, wf⟩
    rcases turn i k Hf wf with ⟨ends, res⟩ | ⟨goes, Go, less, each⟩
    · refine thnF (T.done (X.blk sd Hd sc ce fp) rfl rfl rfl calm i [] sf _ Hf (fun _ _ => False) If (still If freeF) stf ends) fun r sg hh => ?_
      obtain ⟨rfl, Ig⟩ := hh
      have back : Inv X pins σ Hf sg := Id.call' (ch := fp) Ig.os Ig.base Ig.hok Ig.bare fun b mb => ⟨(freeD b mb).1.2.2.2.1, (freeD b mb).1.2.1, (freeD b mb).1.2.2.2.2.1, (freeD b mb).1.2.2.2.2.2⟩
      have gone : Hf sd.heap.objs.size = none := by rw [← local_]; exact Ig.free
      obtain ⟨m, ns, _⟩ := Ig.loc
      have ns : sg.heap.Ns ce.locals m := ns
      rw [local_] at ns
      obtain ⟨p0, p1, p2, p3, p4, p5⟩ := Id.fpOk (Nat.le_refl _) gone
      exact ⟨m, ns, fun h'' same => ⟨.ref D, Hf, back.turned (t' := sg.toks) (fun b o ne e => (same.2 b ne).trans e) p0 p1 p3 p4 p5, rfl, res⟩⟩
    · refine thnF (T.item (X.blk sd Hd sc ce fp) rfl rfl rfl calm i [] sf _ Hf (fun _ _ => False) If (still If freeF) stf goes) fun r sg hh => ?_
      obtain ⟨u, rfl, owned⟩ := hh
      refine thnF owned fun _ sh hh => ?_
      obtain ⟨x, Hh, Ih, rx, yl, sth, freeH⟩ := hh
      have Ip := Ih.pinned (still Ih freeH) (T.obj _ _ sth)
      refine thnF (pg.run _ sh _ Hh x u _ Ip rx (each x Hh yl)) fun _ si hh => ?_
      obtain ⟨τ, Hi, Ii, wiped, rest⟩ := hh
      refine thnF (pt.run _ si τ Hi _ Ii rest) fun b sj hh => ?_
      obtain ⟨Hj, Ij, rest⟩ := hh
      have next : ∀ {s' : Shared} {H' : Hp}, Inv (X.blk sd Hd sc ce fp) ([] ++ pinsAt fp sh.heap) τ H' s' → Go H' → ∃ m, m < k ∧ ∃ i H', Inv (X.blk sd Hd sc ce fp) [] (wipe σ (own.map (·.2))) H' s' ∧ tn i s'.heap ∧ (∀ b ∈ fp, H' b = none) ∧ Wk i m H' := fun {s' H'} I' go' => by
        obtain ⟨m', lt, w'⟩ := less H' go'
        have pinned : ∀ b ∈ fp, ∀ o, sh.heap.get? b = some o → s'.heap.get? b = some o ∧ H' b = none := fun b mb o e =>
          have z := I'.pin (b, o) (List.mem_append_right _ (List.mem_append_right _ (mem_pinsAt mb e)))
          ⟨z.1, z.2.1⟩
        refine ⟨m', lt, i + 1, H', (I'.unpinned (pins := [])).weak (by rw [← wiped, wipe_length]) (fun j v e => by rw [← wiped] at e; exact (wipe_some e).1), T.keep _ _ _ sth fun b mb o e => (pinned b mb o e).1, fun b mb => ?_, w'⟩
        obtain ⟨o, e, _⟩ := T.obj _ _ sth b mb
        exact (pinned b mb o e).2
      cases b with
      | false =>
        simp only [Bool.false_eq_true, if_false] at rest ⊢
        exact next Ij rest
      | true =>
        simp only [if_true] at rest ⊢
        refine thnF (pe.run _ sj τ Hj _ Ij rest) fun zv sk hh => ?_
        obtain ⟨yv, Hk, Ik, ry, c, S, n, rfl, hasD, room, go'⟩ := hh
        obtain ⟨tk, rfl⟩ := (show ∃ t, zv = Value.int c t from ry)
        exact addI_ok (X := X.blk sd Hd sc ce fp) Ik hasD room fun s' I' => next I' go'
  exact codeAny_compStart_set loop (T.self X.A 0 _ _ _ ste loop)
end
/-- over a list that the block leaves as it is -/
theorem scI_list {w : World} {K : PySem.W.Frag} {a : Addr} {xs : List V} {g : TG} {tt : TT} {te : TE} {vs : List Nat} {σ : L2.St} {H1 : Hp} {D : Addr} {Qd : Hp → Prop} (Pv : Nat → Hp → Prop) (h0 : Pv 0 (upd H1 D (SetO w D (fun _ => false) 0)))
    (stays : ∀ i H, i ≤ xs.length → Pv i H → SqL K H a xs)
    (each : ∀ i x H, xs[i]? = some x → Pv i H → g x (wipe σ vs) H fun τ Hd => wipe τ vs = wipe σ vs ∧ tt τ Hd fun b He =>
      if b = true then te τ He fun y Hf => ∃ (c : Int) (S : Int → Bool) (n : Nat), y = .int c ∧ Hf D = some (SetO w D S n) ∧ n + 1 < scanBound ∧ Pv (i + 1) (upd Hf D (SetO w D (fun j => S j || decide (j = c)) (if S c = true then n else n + 1))) else Pv (i + 1) He)
    (fin : ∀ H, Pv xs.length H → Qd H) :
    ∃ Wk : Nat → Nat → Hp → Prop, (∃ m, Wk 0 m (upd H1 D (SetO w D (fun _ => false) 0))) ∧ ∀ i m Hb, Wk i m Hb → ((Itl K a).stop i Hb ∧ Qd Hb) ∨
      ((Itl K a).go i Hb ∧ ∃ Go : Hp → Prop, (∀ Hc, Go Hc → ∃ m', m' < m ∧ Wk (i + 1) m' Hc) ∧ ∀ x Hc, (Itl K a).yld i Hb x Hc → g x (wipe σ vs) Hc fun τ Hd => wipe τ vs = wipe σ vs ∧ tt τ Hd fun b He =>
        if b = true then te τ He fun y Hf => ∃ (c : Int) (S : Int → Bool) (n : Nat), y = .int c ∧ Hf D = some (SetO w D S n) ∧ n + 1 < scanBound ∧ Go (upd Hf D (SetO w D (fun j => S j || decide (j = c)) (if S c = true then n else n + 1))) else Go He) := by
  refine ⟨fun i m H => m = xs.length - i ∧ i ≤ xs.length ∧ Pv i H, ⟨xs.length, by simp, Nat.zero_le _, h0⟩, ?_⟩
  rintro i m H ⟨rfl, hi, pv⟩
  have sq := stays i H hi pv
  by_cases lt : i < xs.length
  · exact .inr ⟨⟨xs, xs[i], sq, by simp [lt]⟩, Pv (i + 1), fun Hc p' => ⟨xs.length - (i + 1), by omega, rfl, lt, p'⟩, fun x Hc yl => by
      obtain ⟨rfl, yl⟩ := yl
      exact each i x _ (yl xs sq) pv⟩
  · obtain rfl : i = xs.length := by omega
    exact .inl ⟨⟨xs, sq, Nat.le_refl _⟩, fin H pv⟩

/-! ### {e for x in .. for y in ..} of ints -/
section
variable {el ta sa tb sb : Expr} {ca cb : List Expr} {sc : Scope} {pos : Pos} {ite set_ : Value} {en : Env}
abbrev two2 (el ta sa tb sb : Expr) (ca cb : List Expr) (sc : Scope) (pos : Pos) : Expr := .SetComp el [⟨ta, sa, ca, 0⟩, ⟨tb, sb, cb, 0⟩] sc pos
theorem turnA (el ta sa tb sb : Expr) (ca cb : List Expr) (sc : Scope) (pos : Pos) (ite set_ : Value) (en : Env) :
    compTurn (two2 el ta sa tb sb ca cb sc pos) 0 ite set_ en = (do
      standAt sa.pos
      match ← pyNext ite with
      | none => pure (.done .next)
      | some got =>
        letOwnedTupleGo ta ite got
        assign ta en got
        let mut go := true
        for q in ca do
          if go then go ← isTrue q en (eval q en)
        if go then
          let src ← eval sb en
          standAt sb.pos
          let src ← foldedSetIterable sb en src
          let _ ← runOwn (.compStart (two2 el ta sa tb sb ca cb sc pos) 1 (← holding [src] (pyIter src)) set_ en) en
        again (.compLoop (two2 el ta sa tb sb ca cb sc pos) 0 ite set_ en)) := by rfl
theorem turnB (el ta sa tb sb : Expr) (ca cb : List Expr) (sc : Scope) (pos : Pos) (ite set_ : Value) (en : Env) :
    compTurn (two2 el ta sa tb sb ca cb sc pos) 1 ite set_ en = (do
      standAt sb.pos
      match ← pyNext ite with
      | none => pure (.done .next)
      | some got =>
        letOwnedTupleGo tb ite got
        assign tb en got
        let mut go := true
        for q in cb do
          if go then go ← isTrue q en (eval q en)
        if go then
          (do let got ← eval el en; standAt el.pos; let _ ← call (.builtin "set.add") [set_, got])
        again (.compLoop (two2 el ta sa tb sb ca cb sc pos) 1 ite set_ en)) := by rfl
variable {prog : Program} {w : World} {A : Around} {Rs : Result → Shared → Prop} {s0 : Shared}
theorem loopA (plain : ∀ z, foldedSetIterable sb en z = pure z) (J : Nat → Shared → Prop)
    (each : ∀ k t, J k t → wpAny (model prog w) A (pyNext ite) (fun got t1 => match got with
      | none => Rs (.ok .next) t1
      | some v => wpAny (model prog w) A (letOwnedTupleGo ta ite v) (fun _ t2 => wpAny (model prog w) A (assign ta en v) (fun _ t3 =>
          wpAny (model prog w) A (forIn ca true fun q go => if go = true then do let yes ← isTrue q en (eval q en); pure (ForInStep.yield yes) else pure (ForInStep.yield go)) (fun yes t4 =>
            if yes = true then wpAny (model prog w) A (eval sb en) (fun src t5 => wpAny (model prog w) A (pyIter src) (fun ite1 t6 =>
              codeAny (model prog w) A (.compStart (two2 el ta sa tb sb ca cb sc pos) 1 ite1 set_ en) (fun res t7 => match res with
                | .ok _ => ∃ j, j < k ∧ J j t7
                | .error _ => False) t6) (notedBy (model prog w) A en fun er t7 => Rs (.error er) t7) t5) (notedBy (model prog w) A en fun er t7 => Rs (.error er) t7) t4
            else ∃ j, j < k ∧ J j t4) (notedBy (model prog w) A en fun er t7 => Rs (.error er) t7) t3) (notedBy (model prog w) A en fun er t7 => Rs (.error er) t7) t2) (notedBy (model prog w) A en fun er t7 => Rs (.error er) t7) t1) (notedBy (model prog w) A en fun er t7 => Rs (.error er) t7) t)
    (k : Nat) (at_ : J k s0) : codeAny (model prog w) A (.compLoop (two2 el ta sa tb sb ca cb sc pos) 0 ite set_ en) Rs s0 := by
  refine codeAny_loop rfl J (fun k t hk => ?_) k at_
  show wpAny _ A ((compTurn (two2 el ta sa tb sb ca cb sc pos) 0 ite set_ en).onRaise (fun z => do noteFrame z en; theTreesLotGoes z)) _ _ t
  refine wpAny_noted ?_
  rw [turnA]
  refine wpAny_bind (wpAny_standAt (wpAny_bind (wpAny_mono (each k t hk) (fun got t1 h1 => ?_) fun _ _ z => z)))
  cases got with
  | none => exact wpAny_pure h1
  | some v =>
    refine wpAny_bind (wpAny_mono h1 (fun _ t2 h2 => ?_) fun _ _ z => z)
    refine wpAny_bind (wpAny_mono h2 (fun _ t3 h3 => wpAny_bind (wpAny_mono h3 (fun yes t4 h4 => ?_) fun _ _ z => z)) fun _ _ z => z)
    cases yes with
    | false => exact wpAny_pure ⟨rfl, h4⟩
    | true =>
      refine wpAny_bind (wpAny_mono h4 (fun src t5 h5 => ?_) fun _ _ z => z)
      refine wpAny_bind (wpAny_standAt (wpAny_bind (wpAny_of_eq (plain src) (wpAny_bind (wpAny_holding (wpAny_mono h5 (fun ite1 t6 h6 => ?_) fun _ _ z => z))))))
      refine wpAny_bind (wpAny_runOwn ?_)
      rw [Around.mark_none]
      refine codeAny_mono h6 fun res t7 h7 => ?_
      cases res with
      | ok fl =>
        first
          | exact wpAny_pure ⟨rfl, h7⟩
          | exact wpAny_bind (wpAny_pure (wpAny_pure ⟨rfl, h7⟩))
      | error er => exact h7.elim
theorem loopB (J : Nat → Shared → Prop)
    (each : ∀ k t, J k t → wpAny (model prog w) A (pyNext ite) (fun got t1 => match got with
      | none => Rs (.ok .next) t1
      | some v => wpAny (model prog w) A (letOwnedTupleGo tb ite v) (fun _ t2 => wpAny (model prog w) A (assign tb en v) (fun _ t3 =>
          wpAny (model prog w) A (forIn cb true fun q go => if go = true then do let yes ← isTrue q en (eval q en); pure (ForInStep.yield yes) else pure (ForInStep.yield go)) (fun yes t4 =>
            if yes = true then wpAny (model prog w) A (eval el en) (fun z t5 =>
              wpAny (model prog w) A (call (.builtin "set.add") [set_, z]) (fun _ t6 => ∃ j, j < k ∧ J j t6) (notedBy (model prog w) A en fun er t7 => Rs (.error er) t7) t5) (notedBy (model prog w) A en fun er t7 => Rs (.error er) t7) t4
            else ∃ j, j < k ∧ J j t4) (notedBy (model prog w) A en fun er t7 => Rs (.error er) t7) t3) (notedBy (model prog w) A en fun er t7 => Rs (.error er) t7) t2) (notedBy (model prog w) A en fun er t7 => Rs (.error er) t7) t1) (notedBy (model prog w) A en fun er t7 => Rs (.error er) t7) t)
    (k : Nat) (at_ : J k s0) : codeAny (model prog w) A (.compLoop (two2 el ta sa tb sb ca cb sc pos) 1 ite set_ en) Rs s0 := by
  refine codeAny_loop rfl J (fun k t hk => ?_) k at_
  show wpAny _ A ((compTurn (two2 el ta sa tb sb ca cb sc pos) 1 ite set_ en).onRaise (fun z => do noteFrame z en; theTreesLotGoes z)) _ _ t
  refine wpAny_noted ?_
  rw [turnB]
  refine wpAny_bind (wpAny_standAt (wpAny_bind (wpAny_mono (each k t hk) (fun got t1 h1 => ?_) fun _ _ z => z)))
  cases got with
  | none => exact wpAny_pure h1
  | some v =>
    refine wpAny_bind (wpAny_mono h1 (fun _ t2 h2 => ?_) fun _ _ z => z)
    refine wpAny_bind (wpAny_mono h2 (fun _ t3 h3 => wpAny_bind (wpAny_mono h3 (fun yes t4 h4 => ?_) fun _ _ z => z)) fun _ _ z => z)
    cases yes with
    | false => exact wpAny_pure ⟨rfl, h4⟩
    | true =>
      exact wpAny_bind (wpAny_bind (wpAny_mono h4 (fun z t5 h5 => wpAny_bind (wpAny_standAt (wpAny_bind (wpAny_mono h5 (fun _ t6 h6 => wpAny_pure (wpAny_pure ⟨rfl, h6⟩)) fun _ _ z => z)))) fun _ _ z => z))
theorem startB (there : codeAny (model prog w) A (.compLoop (two2 el ta sa tb sb ca cb sc pos) 1 ite set_ en) Rs s0)
    (other : wpAny (model prog w) A (pyIter ite) (fun it2 t => codeAny (model prog w) A (.compLoop (two2 el ta sa tb sb ca cb sc pos) 1 it2 set_ en) Rs t) (notedBy (model prog w) A en fun er t => Rs (.error er) t) s0) :
    codeAny (model prog w) A (.compStart (two2 el ta sa tb sb ca cb sc pos) 1 ite set_ en) Rs s0 := by
  refine codeAny_of_tree ?_
  show wpAny _ _ ((compStart (two2 el ta sa tb sb ca cb sc pos) 1 ite set_ en).onRaise (fun z => do noteFrame z en; standAt theWindowsPlace)) _ _ s0
  refine wpAny_notedAt ?_
  unfold compStart
  show wpAny _ _ (ask >>= _) _ _ s0
  refine wpAny_bind (wpAny_askSetting (wpAny_ite ?_))
  split
  · first
      | exact wpAny_bind (wpAny_pure (wpAny_pure (And.intro rfl there)))
      | exact wpAny_pure (And.intro rfl there)
  · first
      | exact wpAny_bind (wpAny_rule (wpAny_bind (wpAny_standAt (wpAny_bind (wpAny_mono other (fun it2 t z => wpAny_pure (And.intro rfl z)) fun _ _ z => z)))))
      | (refine wpAny_bind (wpAny_rule ?_); show wpAny _ _ (standAt sb.pos >>= _) _ _ s0; exact wpAny_bind (wpAny_standAt (wpAny_bind (wpAny_mono other (fun it2 t z => wpAny_pure (And.intro rfl z)) fun _ _ z => z))))
end
/-- the reading: behind the first clause's store and tests the second source's own walk -/
def tSc2 (w : World) (wi : TI) (g : TG) (tt : TT) (wj : TI) (gj : TG) (tj : TT) (te : TE) (vs us : List Nat) : TE := fun σ H Q =>
  wi σ H fun J Ha => ∀ D, Ha D = none → ∃ Wk : Nat → Nat → Hp → Prop, (∃ m, Wk 0 m (upd Ha D (SetO w D (fun _ => false) 0))) ∧
    ∀ i m Hb, Wk i m Hb → (J.stop i Hb ∧ Q (.ref D) Hb) ∨
      (J.go i Hb ∧ ∃ Go : Hp → Prop, (∀ Hc, Go Hc → ∃ m', m' < m ∧ Wk (i + 1) m' Hc) ∧
        ∀ x Hc, J.yld i Hb x Hc → g x (wipe σ vs) Hc fun τ Hd => wipe τ vs = wipe σ vs ∧ tt τ Hd fun b He =>
          if b = true then wj τ He fun Jn Hf => ∃ Wn : Nat → Nat → Hp → Prop, (∃ k, Wn 0 k Hf) ∧ ∀ j k Hg, Wn j k Hg → (Jn.stop j Hg ∧ Go Hg) ∨
            (Jn.go j Hg ∧ ∃ Gn : Hp → Prop, (∀ Hh, Gn Hh → ∃ k', k' < k ∧ Wn (j + 1) k' Hh) ∧ ∀ y Hh, Jn.yld j Hg y Hh → gj y (wipe τ us) Hh fun υ Hi => wipe υ us = wipe τ us ∧ tj υ Hi fun b2 Hj =>
              if b2 = true then te υ Hj fun z Hk => ∃ (c : Int) (S : Int → Bool) (n : Nat), z = .int c ∧ Hk D = some (SetO w D S n) ∧ n + 1 < scanBound ∧
                Gn (upd Hk D (SetO w D (fun j => S j || decide (j = c)) (if S c = true then n else n + 1))) else Gn Hj)
          else Go He)
section
variable {X : Cx}
open PpSet in
theorem pe_sc2 {el ta sa tb sb : Expr} {ca cb : List Expr} {sc : Scope} {own : List (PySem.Str × Nat)} {us : List Nat} {pos : Pos} {wi wj : TI} {g gj : TG} {tt tj : TT} {te : TE} (calm : X.calm = true) (nd : X.N.Nodup)
    (walks : PI X ta sa wi) (blk : BlkOk X.N X.env.scope sc own) (sub : ∀ i ∈ us, i ∈ own.map (·.2))
    (gs : ∀ (s : Shared) (H : Hp) (C : Addr) (cl : List (PySem.Str × Addr)) (fp : List Addr), PG (X.blk s H sc (compEnvC sc cl C X.env) fp) ta g)
    (cs : ∀ (s : Shared) (H : Hp) (C : Addr) (cl : List (PySem.Str × Addr)) (fp : List Addr), PTs (X.blk s H sc (compEnvC sc cl C X.env) fp) ca tt)
    (walkj : ∀ (s : Shared) (H : Hp) (C : Addr) (cl : List (PySem.Str × Addr)) (fp : List Addr), PI (X.blk s H sc (compEnvC sc cl C X.env) fp) tb sb wj)
    (gsj : ∀ (s : Shared) (H : Hp) (C : Addr) (cl : List (PySem.Str × Addr)) (fp : List Addr), PG (X.blk s H sc (compEnvC sc cl C X.env) fp) tb gj)
    (csj : ∀ (s : Shared) (H : Hp) (C : Addr) (cl : List (PySem.Str × Addr)) (fp : List Addr), PTs (X.blk s H sc (compEnvC sc cl C X.env) fp) cb tj)
    (es : ∀ (s : Shared) (H : Hp) (C : Addr) (cl : List (PySem.Str × Addr)) (fp : List Addr), PE (X.blk s H sc (compEnvC sc cl C X.env) fp) el te)
    (src0 : ∀ x, foldedSetIterable sa X.env x = pure x := by intro _; rfl) (src1 : ∀ env x, foldedSetIterable sb env x = pure x := by intro _ _; rfl) :
    PE X (.SetComp el [⟨ta, sa, ca, 0⟩, ⟨tb, sb, cb, 0⟩] sc pos) (tSc2 X.w wi g tt wj gj tj te (own.map (·.2)) us) := by
  refine ⟨fun pins s0 σ Hz Q Iz reading => ?_⟩
  rw [eval_SetComp]
  have cells : ∀ y ∈ sc.names, y.2 = .free → ∃ c, X.env.cells.lookup y.1 = some c := fun y my ey =>
    (blk.free y my ey).elim (fun k => Iz.ok.has _ (.inl k)) (fun k => Iz.ok.has _ (.inr k))
  refine wpAny_comprehension_free (use := none) rfl src0 (closure_ok cells) blk.kind (fun y my ey => by rw [blk.uniq y my, ey]) (thn (walks.run pins s0 σ Hz _ Iz reading) fun _ sa' gotIter => thn gotIter fun _ sb' got => ?_)
  obtain ⟨it, fp, tn, J, Ha, rfl, Ia, T, sta, freeA, q⟩ := got
  refine newSet_ok (newEnv_comp ?_)
  generalize place : sb'.heap.objs.size = D
  have none0 : Ha D = none := Ia.hok.fresh (Nat.le_of_eq place)
  obtain ⟨Wk, ⟨m0, w0⟩, turn⟩ := q D none0
  have sized : ∀ b ∈ fp, b < sb'.heap.objs.size := fun b mb => let ⟨_, e, _⟩ := T.obj _ _ sta b mb; Heap.lt_size e
  generalize pushed : ({ sb' with heap := sb'.heap.push { cls := .type "set", dict := none, data := .set #[] 0 (.fresh 0 0 (!X.w.params.followText "set-order")) } } : Shared) = sd
  have heapd : sd.heap = sb'.heap.push { cls := .type "set", dict := none, data := .set #[] 0 (.fresh 0 0 (!X.w.params.followText "set-order")) } := by rw [← pushed]
  have Id : Inv X pins σ (upd Ha D (SetO X.w D (fun _ => false) 0)) sd := by
    rw [← pushed, ← place]
    exact Ia.laid (t' := sb'.toks) (fun b o e => Heap.get?_push_of_some _ e) (Nat.le_refl _) (setO_new (setR_fresh X.w))
  have freeD : ∀ b ∈ fp, FpOk X pins (upd Ha D (SetO X.w D (fun _ => false) 0)) b ∧ b < sd.heap.objs.size := fun b mb => by
    have lt := sized b mb
    refine ⟨⟨by rw [upd_ne (by rw [← place]; exact Nat.ne_of_lt lt)]; exact (freeA b mb).1, (freeA b mb).2⟩, ?_⟩
    rw [heapd, Heap.size_push]
    exact Nat.lt_succ_of_lt lt
  have std : tn 0 sd.heap := T.keep _ _ _ sta fun b _ o e => by rw [heapd]; exact Heap.get?_push_of_some _ e
  have Ie := block_start Id blk nd freeD
  have pg := gs sd (upd Ha D (SetO X.w D (fun _ => false) 0)) sd.heap.objs.size (cellsFrom (sd.heap.objs.size + 1) sc.names (cloFrom X.env.cells sc.names [])) fp
  have pt := cs sd (upd Ha D (SetO X.w D (fun _ => false) 0)) sd.heap.objs.size (cellsFrom (sd.heap.objs.size + 1) sc.names (cloFrom X.env.cells sc.names [])) fp
  have pe := es sd (upd Ha D (SetO X.w D (fun _ => false) 0)) sd.heap.objs.size (cellsFrom (sd.heap.objs.size + 1) sc.names (cloFrom X.env.cells sc.names [])) fp
  have pwj := walkj sd (upd Ha D (SetO X.w D (fun _ => false) 0)) sd.heap.objs.size (cellsFrom (sd.heap.objs.size + 1) sc.names (cloFrom X.env.cells sc.names [])) fp
  have pgj := gsj sd (upd Ha D (SetO X.w D (fun _ => false) 0)) sd.heap.objs.size (cellsFrom (sd.heap.objs.size + 1) sc.names (cloFrom X.env.cells sc.names [])) fp
  have ptj := csj sd (upd Ha D (SetO X.w D (fun _ => false) 0)) sd.heap.objs.size (cellsFrom (sd.heap.objs.size + 1) sc.names (cloFrom X.env.cells sc.names [])) fp
  show codeAny _ _ (.compStart (two2 el ta sa tb sb ca cb sc pos) 0 (.ref it) (.ref D) (compEnvC sc (cellsFrom (sd.heap.objs.size + 1) sc.names (cloFrom X.env.cells sc.names [])) sd.heap.objs.size X.env)) (compPost (model X.prog X.w) X.A X.xe none (EP X pins σ Q) (.ref D) sd.heap.objs.size) { sd with heap := pushCells (sd.heap.push { cls := .type "dict", data := .dict #[] }) sc.names }
  have apart : ∀ b ∈ fp, (upd Ha D (SetO X.w D (fun _ => false) 0)) b = none := fun b mb => (freeD b mb).1.1
  generalize envIs : compEnvC sc (cellsFrom (sd.heap.objs.size + 1) sc.names (cloFrom X.env.cells sc.names [])) sd.heap.objs.size X.env = ce at Ie pg pt pe pwj pgj ptj ⊢
  have local_ : ce.locals = sd.heap.objs.size := by rw [← envIs]; rfl
  generalize upd Ha D (SetO X.w D (fun _ => false) 0) = Hd at Id Ie pg pt pe pwj pgj ptj w0 apart freeD
  generalize blockIs : ({ sd with heap := pushCells (sd.heap.push { cls := .type "dict", data := .dict #[] }) sc.names } : Shared) = se at Ie ⊢
  have ste : tn 0 se.heap := T.keep _ _ _ std fun b _ o e => by rw [← blockIs]; exact pushCells_keeps _ _ _ _ (Heap.get?_push_of_some _ e)
  have still : ∀ {τ : L2.St} {H' : Hp} {s' : Shared}, Inv (X.blk sd Hd sc ce fp) [] τ H' s' → (∀ b ∈ fp, H' b = none) → ∀ b ∈ fp, FpOk (X.blk sd Hd sc ce fp) [] H' b := fun {τ H' s'} I' free b mb =>
    ⟨free b mb, (I'.ok.exf b mb).1, I'.ok.exfs b mb, .inl mb, fun _ c e => (I'.ok.exf b mb).2 _ c e, fun p mp => absurd (show p ∈ ([] : List (Addr × Obj)) ++ [] from mp) (by simp)⟩
  have loop : codeAny (model X.prog X.w) X.A (.compLoop (two2 el ta sa tb sb ca cb sc pos) 0 (.ref it) (.ref D) ce) (compPost (model X.prog X.w) X.A X.xe none (EP X pins σ Q) (.ref D) sd.heap.objs.size) se := by
    refine loopA (src1 ce) (fun k s' => ∃ i H', Inv (X.blk sd Hd sc ce fp) [] (wipe σ (own.map (·.2))) H' s' ∧ tn i s'.heap ∧ (∀ b ∈ fp, H' b = none) ∧ Wk i k H') ?_ m0 ⟨0, Hd, Ie, ste, apart, w0⟩
    rintro k sf ⟨i, Hf, If, stf, freeF, wf⟩
    rcases turn i k Hf wf with ⟨ends, res⟩ | ⟨goes, Go, less, each⟩
    · refine thnF (T.done (X.blk sd Hd sc ce fp) rfl rfl rfl calm i [] sf _ Hf (fun _ _ => False) If (still If freeF) stf ends) fun r sg hh => ?_
      obtain ⟨rfl, Ig⟩ := hh
      have back : Inv X pins σ Hf sg := Id.call' (ch := fp) Ig.os Ig.base Ig.hok Ig.bare fun b mb => ⟨(freeD b mb).1.2.2.2.1, (freeD b mb).1.2.1, (freeD b mb).1.2.2.2.2.1, (freeD b mb).1.2.2.2.2.2⟩
      have gone : Hf sd.heap.objs.size = none := by rw [← local_]; exact Ig.free
      obtain ⟨m, ns, _⟩ := Ig.loc
      have ns : sg.heap.Ns ce.locals m := ns
      rw [local_] at ns
      obtain ⟨p0, p1, p2, p3, p4, p5⟩ := Id.fpOk (Nat.le_refl _) gone
      exact ⟨m, ns, fun h'' same => ⟨.ref D, Hf, back.turned (t' := sg.toks) (fun b o ne e => (same.2 b ne).trans e) p0 p1 p3 p4 p5, rfl, res⟩⟩
    · refine thnF (T.item (X.blk sd Hd sc ce fp) rfl rfl rfl calm i [] sf _ Hf (fun _ _ => False) If (still If freeF) stf goes) fun r sg hh => ?_
      obtain ⟨u, rfl, owned⟩ := hh
      refine thnF owned fun _ sh hh => ?_
      obtain ⟨x, Hh, Ih, rx, yl, sth, freeH⟩ := hh
      have Ip := Ih.pinned (still Ih freeH) (T.obj _ _ sth)
      refine thnF (pg.run _ sh _ Hh x u _ Ip rx (each x Hh yl)) fun _ si hh => ?_
      obtain ⟨τ, Hi, Ii, wiped, rest⟩ := hh
      refine thnF (pt.run _ si τ Hi _ Ii rest) fun b sj hh => ?_
      obtain ⟨Hj, Ij, rest⟩ := hh
      have next : ∀ {υ : L2.St} {s' : Shared} {H' : Hp}, Inv (X.blk sd Hd sc ce fp) ([] ++ pinsAt fp sh.heap) υ H' s' → (wipe σ (own.map (·.2))).length = υ.length → (∀ (j : Nat) v, (wipe σ (own.map (·.2)))[j]? = some (some v) → υ[j]? = some (some v)) → Go H' → ∃ m, m < k ∧ ∃ i H', Inv (X.blk sd Hd sc ce fp) [] (wipe σ (own.map (·.2))) H' s' ∧ tn i s'.heap ∧ (∀ b ∈ fp, H' b = none) ∧ Wk i m H' := fun {υ s' H'} I' le le2 go' => by
        obtain ⟨m', lt, w'⟩ := less H' go'
        have pinned : ∀ b ∈ fp, ∀ o, sh.heap.get? b = some o → s'.heap.get? b = some o ∧ H' b = none := fun b mb o e =>
          have z := I'.pin (b, o) (List.mem_append_right _ (List.mem_append_right _ (mem_pinsAt mb e)))
          ⟨z.1, z.2.1⟩
        refine ⟨m', lt, i + 1, H', (I'.unpinned (pins := [])).weak le le2, T.keep _ _ _ sth fun b mb o e => (pinned b mb o e).1, fun b mb => ?_, w'⟩
        obtain ⟨o, e, _⟩ := T.obj _ _ sth b mb
        exact (pinned b mb o e).2
      have lenτ : (wipe σ (own.map (·.2))).length = τ.length := by rw [← wiped, wipe_length]
      have hasτ : ∀ (j : Nat) v, (wipe σ (own.map (·.2)))[j]? = some (some v) → τ[j]? = some (some v) := fun j v e => by
        rw [← wiped] at e
        exact (wipe_some e).1
      have hasυ : ∀ (j : Nat) v, (wipe σ (own.map (·.2)))[j]? = some (some v) → (wipe τ us)[j]? = some (some v) := fun j v e => by
        rw [← wiped] at e
        obtain ⟨e1, e2⟩ := wipe_some e
        rw [wipe_out fun z => e2 (sub j z)]
        exact e1
      cases b with
      | false =>
        simp only [Bool.false_eq_true, if_false] at rest ⊢
        exact next Ij lenτ hasτ rest
      | true =>
        simp only [if_true] at rest ⊢
        refine thnF (pwj.run _ sj τ Hj _ Ij rest) fun _ sk hh => thnF hh fun _ sl hh => ?_
        obtain ⟨itn, fpn, tnn, Jn, Hl, rfl, Il, Tn, stl, freeL, Wn, ⟨k1, wn⟩, turnn⟩ := hh
        have still1 : ∀ {H' : Hp}, (∀ b ∈ fpn, H' b = none) → ∀ b ∈ fpn, FpOk (X.blk sd Hd sc ce fp) ([] ++ pinsAt fp sh.heap) H' b := fun free b mb => ⟨free b mb, (freeL b mb).2⟩
        have inner : codeAny (model X.prog X.w) X.A (.compLoop (two2 el ta sa tb sb ca cb sc pos) 1 (.ref itn) (.ref D) ce) (fun res t => match res with
            | .ok _ => ∃ m, m < k ∧ ∃ i H', Inv (X.blk sd Hd sc ce fp) [] (wipe σ (own.map (·.2))) H' t ∧ tn i t.heap ∧ (∀ b ∈ fp, H' b = none) ∧ Wk i m H'
            | .error _ => False) sl := by
          refine loopB (fun kk t => ∃ j H', Inv (X.blk sd Hd sc ce fp) ([] ++ pinsAt fp sh.heap) (wipe τ us) H' t ∧ tnn j t.heap ∧ (∀ b ∈ fpn, H' b = none) ∧ Wn j kk H') ?_ k1 ⟨0, Hl, Il.weak (wipe_length _ _) (fun j v e => (wipe_some e).1), stl, fun b mb => (freeL b mb).1, wn⟩
          rintro kk sm ⟨j, Hm, Im, stm, freeM, wm⟩
          rcases turnn j kk Hm wm with ⟨stop1, go1⟩ | ⟨goes1, Gn, less1, each1⟩
          · refine thnF (Tn.done (X.blk sd Hd sc ce fp) rfl rfl rfl calm j _ sm (wipe τ us) Hm (fun _ _ => False) Im (still1 freeM) stm stop1) fun r sn hh => ?_
            obtain ⟨rfl, In⟩ := hh
            exact next In (lenτ.trans (wipe_length τ us).symm) hasυ go1
          · refine thnF (Tn.item (X.blk sd Hd sc ce fp) rfl rfl rfl calm j _ sm (wipe τ us) Hm (fun _ _ => False) Im (still1 freeM) stm goes1) fun r sn hh => ?_
            obtain ⟨u1, rfl, owned1⟩ := hh
            refine thnF owned1 fun _ so hh => ?_
            obtain ⟨y, Ho, Io, ry, yl1, sto, freeO⟩ := hh
            have Iq := Io.pinned (still1 freeO) (Tn.obj _ _ sto)
            refine thnF (pgj.run _ so (wipe τ us) Ho y u1 _ Iq ry (each1 y Ho yl1)) fun _ sp hh => ?_
            obtain ⟨υ, Hp_, Ip_, wiped1, rest1⟩ := hh
            refine thnF (ptj.run _ sp υ Hp_ _ Ip_ rest1) fun b1 sq hh => ?_
            obtain ⟨Hq, Iq2, rest1⟩ := hh
            have next1 : ∀ {s' : Shared} {H' : Hp}, Inv (X.blk sd Hd sc ce fp) (([] ++ pinsAt fp sh.heap) ++ pinsAt fpn so.heap) υ H' s' → Gn H' → ∃ m, m < kk ∧ ∃ j H', Inv (X.blk sd Hd sc ce fp) ([] ++ pinsAt fp sh.heap) (wipe τ us) H' s' ∧ tnn j s'.heap ∧ (∀ b ∈ fpn, H' b = none) ∧ Wn j m H' := fun {s' H'} I' go' => by
              obtain ⟨m', lt, w'⟩ := less1 H' go'
              have pinned : ∀ b ∈ fpn, ∀ o, so.heap.get? b = some o → s'.heap.get? b = some o ∧ H' b = none := fun b mb o e =>
                have z := I'.pin (b, o) (List.mem_append_right _ (List.mem_append_right _ (mem_pinsAt mb e)))
                ⟨z.1, z.2.1⟩
              refine ⟨m', lt, j + 1, H', I'.unpinned.weak (by rw [← wiped1, wipe_length]) (fun j v e => by rw [← wiped1] at e; exact (wipe_some e).1), Tn.keep _ _ _ sto fun b mb o e => (pinned b mb o e).1, fun b mb => ?_, w'⟩
              obtain ⟨o, e, _⟩ := Tn.obj _ _ sto b mb
              exact (pinned b mb o e).2
            cases b1 with
            | false =>
              simp only [Bool.false_eq_true, if_false] at rest1 ⊢
              exact next1 Iq2 rest1
            | true =>
              simp only [if_true] at rest1 ⊢
              refine thnF (pe.run _ sq υ Hq _ Iq2 rest1) fun zv sr hh => ?_
              obtain ⟨yv, Hr, Ir, rz, c, S, n, rfl, hasD, room, go'⟩ := hh
              obtain ⟨tk, rfl⟩ := (show ∃ t, zv = Value.int c t from rz)
              exact addI_ok (X := X.blk sd Hd sc ce fp) Ir hasD room fun s' I' => next1 I' go'
        exact startB inner (Tn.self X.A 0 _ _ _ stl inner)
  exact codeAny_compStart_set loop (T.self X.A 0 _ _ _ ste loop)
end

/-! ### sorted(s), s a set of ints, any number of them -/
theorem sorted_setI {P : Program} {w : World} {A : Around} {s : Shared} {a : Addr} {E : Value → Shared → Prop} {S : Int → Bool} {n : Nat} {Q : Value → Shared → Prop} (R : SetR w s.heap a S n) (hh : A.handled = none) (hn0 : n ≤ 1000)
    (hQ : ∀ s' p (out : Array Value) (c : Nat) (ns : List Int), (∀ b o, s.heap.get? b = some o → s'.heap.get? b = some o) → s'.gens = s.gens → s'.os = s.os → s.heap.objs.size ≤ p →
      s'.heap.get? p = some (seqObj "list" out c) → IntsAre out.toList ns → ns.Pairwise (· < ·) → (∀ k, k ∈ ns ↔ S k = true) → ns.length = n → Q (.ref p) s') :
    wpAny (model P w) A (call (.builtin "sorted") [.ref a]) Q E s := by
  obtain ⟨o, es, ep, t, ho, hex, hd, g, nd, hm, hb, hf, hn, hr, hl⟩ := R
  refine Calls.call_function_entry kind_sorted plain_sorted entry_sorted (args_sorted1 _) ?_
  unfold Builtin.«sorted»
  refine wpAny_bind (m := checkCount "sorted" 1 1 _) (wpAny_pure ?_)
  refine wpAny_bind (collect_set (A := A.in1) hh ⟨o, ho, hex.1, hd⟩ hf hb hr hl fun s1 vs k1 hz g1 o1 pm => ?_)
  have hvl : vs.length = n := by rw [pm.length_eq, List.length_map, Array.length_toList]; exact hn
  have hI : IntsAre vs (vs.map Builtin.Re.reRawOf) := ints_of vs fun v hv => by
    obtain ⟨e, he, q⟩ := List.mem_map.mp (pm.mem_iff.mp hv)
    obtain ⟨k, tk, h1, _⟩ := g e he
    exact ⟨k, tk, by rw [← q]; exact h1⟩
  have pk : (vs.map Builtin.Re.reRawOf).Perm (es.toList.map keyOf) := by
    have q := pm.map Builtin.Re.reRawOf
    rw [List.map_map] at q
    exact q
  have hsl : vs.length ≤ sizeLine := by rw [hvl, sizeLine_eq]; omega
  refine wpAny_bind (wpAny_newList ?_ hsl)
  have hoL : (s1.heap.push (seqObj "list" vs.toArray 0)).get? s1.heap.objs.size = some (seqObj "list" vs.toArray 0) := Heap.get?_push_size _ rfl
  refine wpAny_bind (wpAny_holding (wpAny_call_entry slot_list_sort ⟨_, hoL, rfl⟩ entry_list_sort (SrtO.list_sort_ord SrtO.swo_int hoL hsl (fun h2 => SrtO.ints_sortable hI h2) fun out a1 a2 => ⟨_, rfl, ?_⟩) (args_list_sort _)))
  obtain ⟨b1, b2, b3⟩ := SrtO.ints_out hI a1 a2
  obtain ⟨c, hc⟩ := sortedHeap_at (vs := vs) (out := out.toArray) hoL
  have pn : (out.map SrtO.iv).Perm (es.toList.map keyOf) := b2.trans pk
  refine wpAny_pure ⟨_, rfl, hQ _ s1.heap.objs.size out.toArray c (out.map SrtO.iv) (fun b u e => ?_) g1 o1 hz hc b1 (lt_of_le_nodup _ b3 (pn.nodup_iff.mpr nd)) (fun k => by rw [pn.mem_iff, ← hm k]) ?_⟩
  · have q := k1 b u e
    have hlt := Heap.lt_size q
    show (sortedHeap (s1.heap.push (seqObj "list" vs.toArray 0)) s1.heap.objs.size vs out.toArray).get? b = some u
    rw [sortedHeap_old (Nat.ne_of_lt hlt) (by rw [size_push']; exact Nat.lt_succ_of_lt hlt)]
    exact Heap.get?_push_of_some _ q
  · rw [pn.length_eq, List.length_map, Array.length_toList]; exact hn
def rSortedSetI (w : World) : List V → Hp → VK → Prop := fun vs H Q => ∃ (a : Addr) (S : Int → Bool) (n : Nat), vs = [V.ref a] ∧ H a = some (SetO w a S n) ∧ n ≤ 1000 ∧
  ∀ (ns : List Int) (p : Addr), ns.Pairwise (· < ·) → (∀ k : Int, k ∈ ns ↔ S k = true) → ns.length = n → H p = none → Q (.ref p) (upd H p (.lst (ns.map V.int)))
theorem cr_sortedSetI {X : Cx} (hc : X.calm = true) : CallR X (.builtin "sorted") (rSortedSetI X.w) := by
  intro pins s σ H vs us Q I r h
  obtain ⟨a, S, n, rfl, ha, h64, q⟩ := h
  have R := setO_get I ha
  rw [Vals.ref1 r]
  refine sorted_setI R (I.ok.hd hc) h64 fun s' p out c ns k g o hp hg hi hs hm hl => ?_
  have hlen : (ns.map V.int).length ≤ sizeLine := by rw [List.length_map, hl, sizeLine_eq]; omega
  have hn : H p = none := I.hok.fresh hp
  have J : Inv X pins σ (upd H p (.lst (ns.map V.int))) { s with heap := s'.heap, gens := s'.gens, drawn := s'.drawn, toks := s'.toks } :=
    I.call (ch := []) (Un.laid k hp hn) (I.hok.laid k hp ⟨hlen, out.toList, c, vals_of_ints hi, hg⟩) (by rw [g]; exact I.bare) (fun _ z => nomatch z)
  have e : s' = { s with heap := s'.heap, gens := s'.gens, drawn := s'.drawn, toks := s'.toks } := by
    cases s'
    cases s
    cases o
    rfl
  rw [e]
  exact ⟨.ref p, _, J, rfl, q ns p hs hm hl hn⟩

/-! ### a def called by its positional promise -/
section
variable {X : Cx} {CX : CXT} {k : Nat} {f : Addr} {sp : Sp} {E : XK} {x : Str} {e : Expr} {es : List Expr} {t : TA} {p pos : Pos}
theorem pe_callR (F : FnR X.prog X.w X.K X.mg X.base CX k f sp) (hr : Room k X.A) (hg : Gl X x) (hm : X.mg x = some (.ref f)) (hk : PySem.W.keepIn X.K (.ref f) = true) (hx : Passes CX X E)
    (ha : PA X (e :: es) t) (hdb : (x == ("__debug__" : Str)) = false := by decide) (he : starEach (e :: es) X.env = (false, eval e X.env) :: starEach es X.env := by rfl) (hpl : (backTo pos (starEach es X.env)).any (·.1) = false := by rfl) :
    PE X (.Call (.Name x p) (e :: es) [] pos) (fun σ H Q => t σ H fun vs H1 => sp vs H1 Q E) := by
  refine ⟨fun pins s σ H Q I h => ?_⟩
  refine wpAny_Call_Name_kw (ld_glob I hg hm ?_ hdb)
  refine PySem.W.callWith_K (h₀ := X.base) I.ok.mod.kin hk (thn (ha.run pos pins s σ H _ I h) fun us s1 ⟨vs, H1, I1, r, q⟩ => ⟨I1.kIn, ?_⟩) he hpl
  exact wpAny_call (run_fnR F hr hx I1 r q)
end
/-- .. under a name of its module -/
structure AtR (P : Program) (w : World) (K : PySem.W.Frag) (mg : Str → Option Value) (base : Heap) (k : Nat) (x : Str) (sp : Sp) (f : Addr) : Prop where
  ok : FnR P w K mg base CX0 k f sp
  at_ : mg x = some (.ref f)
  kp : PySem.W.keepIn K (.ref f) = true
/-! ### the walk of a tuple or a list, told by a word of its turns -/
theorem wk_tup {K : PySem.W.Frag} {a : Addr} {xs : List V} {H0 : Hp} {Qd : Hp → Prop} {F : V → Hp → (Hp → Prop) → Prop} (Pv : Nat → Hp → Prop) (h0 : Pv 0 H0) (stays : ∀ i H, i ≤ xs.length → Pv i H → SqT K H a xs)
    (each : ∀ i x H, xs[i]? = some x → Pv i H → F x H (Pv (i + 1))) (fin : ∀ H, Pv xs.length H → Qd H) :
    ∃ Wk : Nat → Nat → Hp → Prop, (∃ m, Wk 0 m H0) ∧ ∀ i m Hb, Wk i m Hb → ((Itt K a).stop i Hb ∧ Qd Hb) ∨
      ((Itt K a).go i Hb ∧ ∃ Go : Hp → Prop, (∀ Hc, Go Hc → ∃ m', m' < m ∧ Wk (i + 1) m' Hc) ∧ ∀ x Hc, (Itt K a).yld i Hb x Hc → F x Hc Go) := by
  refine ⟨fun i m H => m = xs.length - i ∧ i ≤ xs.length ∧ Pv i H, ⟨xs.length, by simp, Nat.zero_le _, h0⟩, ?_⟩
  rintro i m H ⟨rfl, hi, pv⟩
  have sq := stays i H hi pv
  by_cases lt : i < xs.length
  · exact .inr ⟨⟨xs, xs[i], sq, by simp [lt]⟩, Pv (i + 1), fun Hc p' => ⟨xs.length - (i + 1), by omega, rfl, lt, p'⟩, fun x Hc yl => by
      obtain ⟨rfl, yl⟩ := yl
      exact each i x _ (yl xs sq) pv⟩
  · obtain rfl : i = xs.length := by omega
    exact .inl ⟨⟨xs, sq, Nat.le_refl _⟩, fin H pv⟩
theorem wk_lst {K : PySem.W.Frag} {a : Addr} {xs : List V} {H0 : Hp} {Qd : Hp → Prop} {F : V → Hp → (Hp → Prop) → Prop} (Pv : Nat → Hp → Prop) (h0 : Pv 0 H0) (stays : ∀ i H, i ≤ xs.length → Pv i H → SqL K H a xs)
    (each : ∀ i x H, xs[i]? = some x → Pv i H → F x H (Pv (i + 1))) (fin : ∀ H, Pv xs.length H → Qd H) :
    ∃ Wk : Nat → Nat → Hp → Prop, (∃ m, Wk 0 m H0) ∧ ∀ i m Hb, Wk i m Hb → ((Itl K a).stop i Hb ∧ Qd Hb) ∨
      ((Itl K a).go i Hb ∧ ∃ Go : Hp → Prop, (∀ Hc, Go Hc → ∃ m', m' < m ∧ Wk (i + 1) m' Hc) ∧ ∀ x Hc, (Itl K a).yld i Hb x Hc → F x Hc Go) := by
  refine ⟨fun i m H => m = xs.length - i ∧ i ≤ xs.length ∧ Pv i H, ⟨xs.length, by simp, Nat.zero_le _, h0⟩, ?_⟩
  rintro i m H ⟨rfl, hi, pv⟩
  have sq := stays i H hi pv
  by_cases lt : i < xs.length
  · exact .inr ⟨⟨xs, xs[i], sq, by simp [lt]⟩, Pv (i + 1), fun Hc p' => ⟨xs.length - (i + 1), by omega, rfl, lt, p'⟩, fun x Hc yl => by
      obtain ⟨rfl, yl⟩ := yl
      exact each i x _ (yl xs sq) pv⟩
  · obtain rfl : i = xs.length := by omega
    exact .inl ⟨⟨xs, sq, Nat.le_refl _⟩, fin H pv⟩
/-! ### the moments that at least one of some things changes -/
structure Blt5 (mg : Str → Option Value) : Prop where
  sorted : mg "sorted" = none
theorem Tups.append {H : Hp} : ∀ {ts us : List Addr} {ms ns : List (Int × Int)}, Tups H ts ms → Tups H us ns → Tups H (ts ++ us) (ms ++ ns)
  | [], _, [], _, _, h => h
  | _ :: _, _, _ :: _, _, g, h => ⟨g.1, Tups.append g.2 h⟩
/-- things with changes, told by Th -/
def spChOf (Th : Hp → Addr → List (Int × Int) → Prop) : Sp := fun vs H Q _ => ∃ (x : Addr) (ms : List (Int × Int)), vs = [.ref x] ∧ Th H x ms ∧
  ∀ (H' : Hp) (q : Addr) (ts : List Addr), Same H H' → H q = none → H' q = some (.lst (ts.map V.ref)) → Tups H' ts ms → Q (.ref q) H'
structure ThOk (C : Addr) (Th : Hp → Addr → List (Int × Int) → Prop) : Prop where
  same : ∀ {H H' x ms}, Th H x ms → Same H H' → Th H' x ms
  ob : ∀ {H x ms}, Th H x ms → ∃ dx fs, H x = some (.ins C dx fs)
abbrev allOf (as : List (Addr × List (Int × Int))) : List (Int × Int) := as.flatMap (·.2)
def spMoms0 (Th : Hp → Addr → List (Int × Int) → Prop) : Sp := fun vs H Q _ => ∃ (p : Addr) (as : List (Addr × List (Int × Int))), vs = [.ref p] ∧ H p = some (.tup (as.map fun z => V.ref z.1)) ∧ (∀ z ∈ as, Th H z.1 z.2) ∧ (allOf as).length ≤ 900 ∧
  ∀ (H' : Hp) (q : Addr) (ks : List Int), Same H H' → H q = none → ks.Pairwise (· < ·) → (∀ k, k ∈ ks ↔ k ∈ (allOf as).map (·.1)) → ks.length ≤ (allOf as).length → H' q = some (.lst (ks.map V.int)) → Q (.ref q) H'
def spMoms (Th : Hp → Addr → List (Int × Int) → Prop) : Sp := fun vs H Q _ => ∃ as : List (Addr × List (Int × Int)), vs = as.map (fun z => V.ref z.1) ∧ as.length ≤ 900 ∧ (∀ z ∈ as, Th H z.1 z.2) ∧ (allOf as).length ≤ 900 ∧
  ∀ (H' : Hp) (q : Addr) (ks : List Int), Same H H' → H q = none → ks.Pairwise (· < ·) → (∀ k, k ∈ ks ↔ k ∈ (allOf as).map (·.1)) → ks.length ≤ (allOf as).length → H' q = some (.lst (ks.map V.int)) → Q (.ref q) H'
section
variable {P : Program} {w : World} {K : PySem.W.Frag} {mg : Str → Option Value} {base : Heap}
theorem scChanged : FnScope ["things", "thing", "moment", "_"] ((([] : List Str)) ++ [("things" : Str)]) (defScope sChanged) := ⟨rfl, rfl, rfl, by decide +kernel, rfl, by decide +kernel, by decide +kernel⟩
theorem allOf_succ {as : List (Addr × List (Int × Int))} {i : Nat} {z : Addr × List (Int × Int)} (h : as[i]? = some z) : allOf (as.take (i + 1)) = allOf (as.take i) ++ z.2 := by
  rw [List.take_add_one, h, allOf, List.flatMap_append]
  simp
theorem allOf_le {as : List (Addr × List (Int × Int))} {i : Nat} : (allOf (as.take i)).length ≤ (allOf as).length := by
  have e : allOf as = allOf (as.take i) ++ allOf (as.drop i) := by rw [allOf, allOf, allOf, ← List.flatMap_append, List.take_append_drop]
  rw [e, List.length_append]
  omega
theorem ok_moms {f C p3 g3 : Addr} {fd d3 : FuncData} {Th : Hp → Addr → List (Int × Int) → Prop} (F : Fun K "changed_moments" "changed_moments" sChanged f fd) (zc : Cls K C) (th : ThOk C Th) (T5 : Blt5 mg) (W3 : Pp P w K mg base C "changes" (spChOf Th) p3 g3 d3) : FnR P w K mg base CX0 3 f (spMoms Th) := by
  obtain ⟨oc, od, kV, doc, pm, an, cdv, ct, osl, rfl, lk, hcd⟩ := F.ex
  refine FnR.imp (StX.fn_star (ps := []) (sp := spMoms0 Th) lk hcd scChanged (fun _ _ _ _ _ _ _ _ _ _ _ z => z) (fun us rest hl => ?_) fun A outer s H vs Q E hr h => ?_) (fun vs H Q E h => ?_)
  · match us, hl with
    | [], _ => match rest with
      | [] => rfl
      | _ :: _ => rfl
  · obtain ⟨p, as, rfl, hp, tas, le, k⟩ := h
    suffices hh : ∃ t, PSs (cxOf CX0 P w K mg base ["things", "thing", "moment", "_"] "changed_moments" (defScope sChanged) f cdv A outer s H E).nox (defBody sChanged) t ∧ t { nx := fun _ H' => Q .non H', rt := Q } (start ["things", "thing", "moment", "_"] [V.ref p]) H by
      obtain ⟨t, h1, h2⟩ := hh
      exact ⟨t, h1.nox, h2⟩
    refine ⟨_, pss_one (ps_ret (pe_callB (cr_sortedSetI rfl) (by rfl) T5.sorted (by decide +kernel) (pa_cons (pe_sc2 (own := [("thing", 1), ("moment", 2), ("_", 3)]) (us := [2, 3]) (g := gName 1) (gj := gTup K 2 (gCons (gName 2) (gCons (gName 3) gNil))) (tt := tYes) (tj := tYes) (te := tVar 2) (wj := iList K (tProp C (spChOf Th) [] E0 (tVar 1))) rfl scChanged.nd
        (pi_tup (pv 0))
        (blkOk_by (N := ["things", "thing", "moment", "_"]) (sc := defScope sChanged) (by decide +kernel)) (by decide)
        (fun _ _ _ _ _ => pg_name (i := 1) scChanged.nd rfl (.inl rfl)) (fun _ _ _ _ _ => pts_nil)
        (fun _ _ _ _ _ => pi_list (pe_prop (pv 1) zc W3.of W3.ok (hr.mono (by decide)) W3.bi .nil pass0 rfl))
        (fun _ _ _ _ _ => pg_tup rfl (pgs_cons (pg_name (i := 2) scChanged.nd rfl (.inl rfl)) (pgs_cons (pg_name (i := 3) scChanged.nd rfl (.inl rfl)) pgs_nil))) (fun _ _ _ _ _ => pts_nil)
        (fun _ _ _ _ _ => pv 2)) pa_nil))), ?_⟩
    refine ⟨_, rfl, p, rfl, ⟨_, SqT.of hp⟩, fun D hD => wk_tup (K := K) (a := p) (xs := as.map fun z => V.ref z.1) (fun i J => ∃ (S : Int → Bool) (n : Nat), J D = some (SetO w D S n) ∧ (∀ k, S k = true ↔ k ∈ (allOf (as.take i)).map (·.1)) ∧ n ≤ (allOf (as.take i)).length ∧ Same H J)
      ⟨_, 0, upd_same, fun k => by simp, Nat.zero_le _, same_new hD⟩ (fun i J _ ⟨_, _, _, _, _, h⟩ => SqT.of (h _ _ hp)) ?_ ?_⟩
    · rintro i y J hi ⟨S, n, hJ, hS, hn, sJ⟩
      rw [List.getElem?_map] at hi
      cases hz : as[i]? with
      | none => rw [hz] at hi; cases hi
      | some z =>
      rw [hz] at hi
      obtain rfl := Option.some.inj hi
      have tz := th.same (tas z (List.mem_of_getElem? hz)) sJ
      obtain ⟨dx, fs, hx⟩ := th.ob tz
      have es := allOf_succ hz
      have le1 := allOf_le (as := as) (i := i + 1)
      rw [es, List.length_append] at le1
      refine ⟨rfl, _, rfl, z.1, dx, fs, rfl, hx, ⟨z.1, z.2, rfl, tz, fun H1 q1 ts s1 nq1 h1 tp => ?_⟩⟩
      have tl := tp.len
      have ne : q1 ≠ D := fun e => by rw [e, hJ] at nq1; cases nq1
      refine ⟨q1, rfl, ⟨_, SqL.of h1⟩, wk_lst (K := K) (a := q1) (xs := ts.map V.ref) (fun j I => ∃ (S : Int → Bool) (n : Nat), I D = some (SetO w D S n) ∧ (∀ k, S k = true ↔ k ∈ (allOf (as.take i) ++ z.2.take j).map (·.1)) ∧ n ≤ (allOf (as.take i)).length + j ∧ Fr D H1 I)
        ⟨S, n, s1 _ _ hJ, fun k => by rw [hS k]; simp, by omega, Fr.refl _ _⟩ (fun j I _ ⟨_, _, _, _, _, h⟩ => SqL.of (h _ _ h1 ne)) ?_ ?_⟩
      · rintro j y I hj ⟨S2, n2, hI, hS2, hn2, fI⟩
        have hj2 : j < ts.length := by
          have := (List.getElem?_eq_some_iff.mp hj).1
          simpa using this
        rw [List.getElem?_map, List.getElem?_eq_getElem hj2] at hj
        obtain rfl := Option.some.inj hj
        obtain ⟨m, hm, hm2⟩ := tp.get (List.getElem?_eq_getElem hj2)
        have nt : ts[j] ≠ D := fun e => by
          rw [e, s1 _ _ hJ] at hm2
          cases hm2
        have et : z.2.take (j + 1) = z.2.take j ++ [m] := by rw [List.take_add_one, hm]; rfl
        refine ⟨_, _, rfl, .inl (.inl (fI _ _ hm2 nt)), rfl, _, _, rfl, _, [], rfl, rfl, rfl, ?_⟩
        refine ⟨_, rfl, m.1, S2, n2, rfl, hI, (by show n2 + 1 < 4096; omega), _, _, upd_same, fun k => ?_, ?_, fI.trans Fr.at_⟩
        · rw [et, ← List.append_assoc, List.map_append, List.mem_append, ← hS2 k]
          simp
        · split <;> omega
      · rintro I ⟨S2, n2, hI, hS2, hn2, fI⟩
        rw [List.length_map] at hn2 hS2
        rw [tl, List.take_length, ← es] at hS2
        refine ⟨S2, n2, hI, hS2, ?_, fun c o e => fI _ _ (s1 _ _ (sJ _ _ e)) (ne_of_none e hD)⟩
        rw [es, List.length_append]
        omega
    · rintro J ⟨S, n, hJ, hS, hn, sJ⟩
      rw [List.length_map] at hn hS
      rw [List.take_length] at hS hn
      refine ⟨D, S, n, rfl, hJ, by omega, fun ks p asc mem len np => ?_⟩
      have s4 := same_new (o := .lst (ks.map V.int)) np
      exact k _ p ks (sJ.trans s4) (sJ.free np) asc (fun k => by rw [mem k, hS k]) (by omega) upd_same
  · obtain ⟨as, rfl, la, tas, le, k⟩ := h
    refine ⟨[], as.map (fun z => V.ref z.1), rfl, rfl, by rw [List.length_map, sizeLine_eq]; omega, fun p hp => ⟨p, as, rfl, upd_same, fun z hz => th.same (tas z hz) (same_new hp), le, fun H' q ks s nq => k H' q ks ((same_new hp).trans s) ?_⟩⟩
    exact (same_new hp).free nq
end

/-! ### lanes -/
def countUpto (ns : List Int) (v : Int) : Nat := (ns.filter fun n => decide (n ≤ v)).length
theorem upto_is {ns : List Int} {v : Int} {lo : Nat} (hl : lo ≤ ns.length) (h1 : ∀ i (h : i < ns.length), i < lo → ns[i] ≤ v) (h2 : ∀ i (h : i < ns.length), lo ≤ i → v < ns[i]) : countUpto ns v = lo := by
  have e : countUpto ns v = countUpto (ns.take lo ++ ns.drop lo) v := by rw [List.take_append_drop]
  rw [e]
  unfold countUpto
  rw [List.filter_append, List.filter_eq_self.mpr, List.filter_eq_nil_iff.mpr, List.append_nil, List.length_take]
  · omega
  · intro x hx
    obtain ⟨i, hi, e⟩ := List.getElem_of_mem hx
    rw [List.length_drop] at hi
    rw [List.getElem_drop] at e
    have := h2 (lo + i) (by omega) (by omega)
    rw [e] at this
    simp
    omega
  · intro x hx
    obtain ⟨i, hi, e⟩ := List.getElem_of_mem hx
    rw [List.length_take] at hi
    rw [List.getElem_take] at e
    have := h1 i (by omega) (by omega)
    rw [e] at this
    simp
    omega
def spUpto : Sp := fun vs H Q _ => ∃ (a : Addr) (ns : List Int) (v : Int), vs = [.ref a, .int v] ∧ H a = some (.lst (ns.map V.int)) ∧ ns.Pairwise (· ≤ ·) ∧ Q (.int (countUpto ns v : Nat)) H
def laneF (r n : Int) (m o g : Addr) : List (Str × V) := putF "goals" (.ref g) (putF "offsets" (.ref o) (putF "marks" (.ref m) (putF "step" (.int n) (putF "rest" (.int r) []))))
theorem laneF_m (r n : Int) (m o g : Addr) : (laneF r n m o g).lookup ("marks" : Str) = some (.ref m) := by
  unfold laneF
  rw [lookup_putF, if_neg (by decide +kernel), lookup_putF, if_neg (by decide +kernel), lookup_putF, if_pos rfl]
theorem laneF_o (r n : Int) (m o g : Addr) : (laneF r n m o g).lookup ("offsets" : Str) = some (.ref o) := by
  unfold laneF
  rw [lookup_putF, if_neg (by decide +kernel), lookup_putF, if_pos rfl]
theorem laneF_g (r n : Int) (m o g : Addr) : (laneF r n m o g).lookup ("goals" : Str) = some (.ref g) := by
  unfold laneF
  rw [lookup_putF, if_pos rfl]
theorem laneF_no (r n : Int) (m o g : Addr) {x : Str} (h1 : ¬ x = "goals") (h2 : ¬ x = "offsets") (h3 : ¬ x = "marks") (h4 : ¬ x = "step") (h5 : ¬ x = "rest") : (laneF r n m o g).lookup x = none := by
  unfold laneF
  rw [lookup_putF, if_neg h1, lookup_putF, if_neg h2, lookup_putF, if_neg h3, lookup_putF, if_neg h4, lookup_putF, if_neg h5]
  rfl
/-- a lane at a, apart from av -/
def LaneAt (L av : Addr) (H : Hp) (a : Addr) (r n off : Int) (ks : List (Int × Int)) : Prop := ∃ dx m o g, H a = some (.ins L dx (laneF r n m o g)) ∧ H m = some (.lst ((ks.map (·.1)).map V.int)) ∧ H o = some (.lst ((off :: ks.map (·.2)).map V.int)) ∧
  H g = some (.lst ((ks.map fun k => k.1 + k.2).map V.int)) ∧ a ≠ av ∧ m ≠ av ∧ o ≠ av ∧ g ≠ av
theorem LaneAt.fr {L av : Addr} {H H' : Hp} {a : Addr} {r n off : Int} {ks : List (Int × Int)} (h : LaneAt L av H a r n off ks) (f : Fr av H H') : LaneAt L av H' a r n off ks := by
  obtain ⟨dx, m, o, g, h1, h2, h3, h4, n1, n2, n3, n4⟩ := h
  exact ⟨dx, m, o, g, f _ _ h1 n1, f _ _ h2 n2, f _ _ h3 n3, f _ _ h4 n4, n1, n2, n3, n4⟩
theorem LaneAt.same {L av : Addr} {H H' : Hp} {a : Addr} {r n off : Int} {ks : List (Int × Int)} (h : LaneAt L av H a r n off ks) (f : Same H H') : LaneAt L av H' a r n off ks := h.fr (Fr.of f)
theorem LaneAt.mix {L av D : Addr} {H H' : Hp} {a : Addr} {r n off : Int} {ks : List (Int × Int)} (h : LaneAt L av H a r n off ks) (g : LaneAt L D H a r n off ks) (f : Fr D H H') : LaneAt L av H' a r n off ks := by
  obtain ⟨dx, m, o, g0, h1, h2, h3, h4, n1, n2, n3, n4⟩ := h
  obtain ⟨dx', m', o', g', k1, k2, k3, k4, l1, l2, l3, l4⟩ := g
  rw [h1] at k1
  have e := Option.some.inj k1
  injection e with e1 e2 e3
  have em : m = m' := by
    have := congrArg (List.lookup ("marks" : Str)) e3
    rw [laneF_m, laneF_m] at this
    injection this with this
    injection this
  have eo : o = o' := by
    have := congrArg (List.lookup ("offsets" : Str)) e3
    rw [laneF_o, laneF_o] at this
    injection this with this
    injection this
  have eg : g0 = g' := by
    have := congrArg (List.lookup ("goals" : Str)) e3
    rw [laneF_g, laneF_g] at this
    injection this with this
    injection this
  subst em eo eg
  exact ⟨dx, m, o, g0, f _ _ h1 l1, f _ _ h2 l2, f _ _ h3 l3, f _ _ h4 l4, n1, n2, n3, n4⟩
def laneOff (off : Int) (ks : List (Int × Int)) (t : Int) : Int := (off :: ks.map (·.2)).getD (countUpto (ks.map (·.1)) t) 0
def spLaneI (L : Addr) (K : PySem.W.Frag) : Sp := fun vs H Q _ => ∃ (x dx c : Addr) (r n off : Int) (ts : List Addr) (ks : List (Int × Int)), vs = [.ref x, .int r, .int n, .int off, .ref c] ∧ H x = some (.ins L dx []) ∧ SqL K H c (ts.map V.ref) ∧ c ≠ x ∧ Tups H ts ks ∧ ks.length ≤ 900 ∧
  ∀ H', (∀ av o, H av = some o → av ≠ x → LaneAt L av H' x r n off ks) → (∀ b o, H b = some o → b ≠ x → H' b = some o) → Q .non H'
def spLaneOff (L : Addr) : Sp := fun vs H Q _ => ∃ (x av : Addr) (r n off t : Int) (ks : List (Int × Int)), vs = [.ref x, .int t] ∧ LaneAt L av H x r n off ks ∧ (ks.map (·.1)).Pairwise (· ≤ ·) ∧ Q (.int (laneOff off ks t)) H
/-- a list of what each change of a list gives -/
theorem lc_chg {K : PySem.W.Frag} {c D : Addr} {ts : List Addr} {ks : List (Int × Int)} {J0 : Hp} {g : TG} {tt : TT} {te : TE} {vs : List Nat} {σ : L2.St} {Qd : Hp → Prop} (fn : Int × Int → Int) (hc : SqL K J0 c (ts.map V.ref)) (tp : Tups J0 ts ks) (le : ks.length ≤ 900) (hD : J0 D = none)
    (each : ∀ (t : Addr) (k : Int × Int) (J : Hp) (N : V → Hp → Prop) (M : Hp → Prop), J t = some (.tup [.int k.1, .int k.2]) → N (.int (fn k)) J → g (.ref t) (wipe σ vs) J fun σ2 H2 => wipe σ2 vs = wipe σ vs ∧ tt σ2 H2 fun b H3 => if b = true then te σ2 H3 N else M H3)
    (fin : ∀ J, J D = some (.lst ((ks.map fn).map V.int)) → Same J0 J → Qd J) :
    ∃ W : Nat → Nat → Hp → Prop, (∃ m, W 0 m (upd J0 D (.lst []))) ∧ ∀ i m H, W i m H →
      ((Itl K c).stop i H ∧ Qd H) ∨ ((Itl K c).go i H ∧ ∃ Nx : Hp → Prop, (∀ H', Nx H' → ∃ m', m' < m ∧ W (i + 1) m' H') ∧ ∀ x H', (Itl K c).yld i H x H' → g x (wipe σ vs) H' fun σ2 H2 => wipe σ2 vs = wipe σ vs ∧ tt σ2 H2 fun b H3 =>
        if b = true then te σ2 H3 fun y H4 => ∃ acc, H4 D = some (.lst acc) ∧ acc.length < sizeLine ∧ Nx (upd H4 D (.lst (acc ++ [y]))) else Nx H3) := by
  have tl := tp.len
  refine lc_list (K := K) (a := c) (xs := ts.map V.ref) (fun i J => J D = some (.lst (((ks.take i).map fn).map V.int)) ∧ Same J0 J) ⟨by rw [upd_same]; rfl, same_new hD⟩ (fun i J _ h => (show Same J0 J from h.2).seq hc) ?_ ?_
  · rintro i y J hi ⟨hJ, sJ⟩
    have hi2 : i < ts.length := by
      have := (List.getElem?_eq_some_iff.mp hi).1
      simpa using this
    rw [List.getElem?_map, List.getElem?_eq_getElem hi2] at hi
    obtain rfl := Option.some.inj hi
    obtain ⟨m, hm, hm2⟩ := (tp.same sJ).get (List.getElem?_eq_getElem hi2)
    have et : ks.take (i + 1) = ks.take i ++ [m] := by rw [List.take_add_one, hm]; rfl
    refine each _ m J _ _ hm2 ⟨_, hJ, ?_, ?_, fun b o e => ?_⟩
    · rw [List.length_map, List.length_map, List.length_take]
      exact small1000 (by omega)
    · rw [upd_same, et, List.map_append, List.map_append]
      rfl
    · rw [upd_ne (ne_of_none e hD)]
      exact sJ _ _ e
  · rintro J ⟨hJ, sJ⟩
    rw [List.length_map, tl, List.take_length] at hJ
    exact fin J hJ sJ
structure LaC (K : PySem.W.Frag) (mg : Str → Option Value) (L : Addr) : Prop where
  cl : Cls K L
  nr : NoAttr K L "rest"
  ns : NoAttr K L "step"
  nm : NoAttr K L "marks"
  no : NoAttr K L "offsets"
  ng : NoAttr K L "goals"
  at_ : mg "Lane" = some (.ref L)
section
variable {P : Program} {w : World} {K : PySem.W.Frag} {mg : Str → Option Value} {base : Heap}
theorem scUpto : FnScope ["numbers", "limit", "low", "high", "middle"] ["numbers", "limit"] (defScope sUpto) := ⟨rfl, rfl, rfl, by decide +kernel, rfl, by decide +kernel, by decide +kernel⟩
theorem ok_upto {f : Addr} {fd : FuncData} (F : Fun K "many_upto" "many_upto" sUpto f fd) (T : Blt mg) : FnOk P w K mg base CX0 1 f fd ["numbers", "limit"] spUpto := by
  refine F.ok scUpto (fun vs H Q E h => ?_) (fun cdv A outer s H vs Q E hr h => ?_)
  · obtain ⟨a, ns, v, rfl, _⟩ := h
    rfl
  · obtain ⟨a, ns, v, rfl, ha, asc, q⟩ := h
    refine ⟨_, pss_cons (ps_par (i := 2) (j := 3) rfl scUpto.nd rfl rfl (by decide) rfl rfl (pa_cons pe_int (pa_cons (pe_callB call_len_seq (by rfl) T.len PySem.boot_len (pa_cons (pv 0) pa_nil)) pa_nil)) (by rfl))
      (pss_cons (ps_while PassesOwn.never (pt_cmpR op_lt (pv 2) (pv 3) (nomark _))
        (pss_cons (ps_set (i := 4) scUpto.nd rfl (.inl rfl) (pe_op op_fdiv (pe_op op_add (pv 2) (pv 3)) pe_int))
        (pss_one (ps_if (pt_cmpR op_le (pe_ix ix_list (pv 0) (pv 4) (fun _ _ => rfl)) (pv 1) (nomark _))
          (pss_one (ps_set (i := 2) scUpto.nd rfl (.inl rfl) (pe_op op_add (pv 4) pe_int)))
          (pss_one (ps_set (i := 3) scUpto.nd rfl (.inl rfl) (pv 4)))))))
      (pss_one (ps_ret (pv 2)))), ?_⟩
    refine ⟨_, rfl, a, _, rfl, .inl (SqL.of ha), _, _, rfl, ?_⟩
    rw [List.length_map]
    refine while_by (fun σ J => J = H ∧ ∃ (lo hi : Nat) (md : Option V), σ = [some (.ref a), some (.int v), some (.int (lo : Nat)), some (.int (hi : Nat)), md] ∧ lo ≤ hi ∧ hi ≤ ns.length ∧ (∀ i (h : i < ns.length), i < lo → ns[i] ≤ v) ∧ (∀ i (h : i < ns.length), hi ≤ i → v < ns[i]))
      (fun σ _ => match σ with
        | [_, _, some (.int lo), some (.int hi), _] => (hi - lo).toNat
        | _ => 0) ⟨rfl, 0, ns.length, none, rfl, Nat.zero_le _, Nat.le_refl _, fun i _ h => by omega, fun i h1 h2 => by omega⟩ ?_ ?_
    · rintro σ J ⟨rfl, lo, hi, md, rfl, le, lh, h1, h2⟩
      refine ⟨_, rfl, _, rfl, _, _, rfl, rfl, _, rfl, ite2 (fun z => ?_) (fun z => ?_)⟩
      · have lt : lo < hi := by
          have := of_decide_eq_true z
          omega
        have hm : ((lo : Int) + (hi : Int)) / 2 = (((lo + hi) / 2 : Nat) : Int) := by omega
        refine ⟨_, rfl, _, rfl, _, _, rfl, rfl, _, _, rfl, rfl, ⟨by decide, by decide⟩, ?_⟩
        simp only [hm]
        generalize hmid : (lo + hi) / 2 = mid
        have m1 : mid < ns.length := by omega
        refine ⟨_, rfl, _, rfl, a, _, _, _, rfl, rfl, SqL.of ha, atI_nat (j := mid) (v := V.int ns[mid]) (by rw [List.getElem?_map, List.getElem?_eq_getElem m1]; rfl), _, rfl, _, _, rfl, rfl, _, rfl, ite2 (fun g => ?_) (fun g => ?_)⟩
        · have g1 : ns[mid] ≤ v := of_decide_eq_true g
          refine ⟨_, rfl, _, _, rfl, rfl, ⟨rfl, mid + 1, hi, _, rfl, by omega, lh, fun i hi1 hi2 => ?_, h2⟩, ?_⟩
          · rcases Nat.lt_or_ge i mid with z | z
            · have := List.pairwise_iff_getElem.mp asc i mid hi1 m1 z
              omega
            · obtain rfl : i = mid := by omega
              exact g1
          · show ((hi : Int) - ((mid : Int) + 1)).toNat < ((hi : Int) - (lo : Int)).toNat
            omega
        · have g1 : ¬ ns[mid] ≤ v := fun z => g (decide_eq_true z)
          refine ⟨_, rfl, ⟨rfl, lo, mid, _, rfl, by omega, by omega, h1, fun i hi1 hi2 => ?_⟩, ?_⟩
          · rcases Nat.lt_or_ge mid i with z | z
            · have := List.pairwise_iff_getElem.mp asc mid i m1 hi1 z
              omega
            · obtain rfl : i = mid := by omega
              omega
          · show ((mid : Int) - (lo : Int)).toNat < ((hi : Int) - (lo : Int)).toNat
            omega
      · obtain rfl : lo = hi := by
          have : ¬ ((lo : Int) < (hi : Int)) := fun y => z (decide_eq_true y)
          omega
        refine ⟨_, rfl, ?_⟩
        rw [upto_is lh h1 h2] at q
        exact q
    · rintro σ J Q1 Q2 g ⟨x, e1, y, e2, i, j, e3, e4, b, e5, q1⟩
      exact ⟨x, e1, y, e2, i, j, e3, e4, b, e5, g _ _ q1⟩
theorem scLaneI : FnScope ["self", "rest", "step", "offset", "changes", "moment", "_", "changed"] ["self", "rest", "step", "offset", "changes"] (defScope sLaneI) := ⟨rfl, rfl, rfl, by decide +kernel, rfl, by decide +kernel, by decide +kernel⟩
theorem ok_laneI {f L : Addr} {fd : FuncData} (F : Fun K "__init__" "Lane.__init__" sLaneI f fd) (Z : LaC K mg L) : FnOk P w K mg base CX0 1 f fd ["self", "rest", "step", "offset", "changes"] (spLaneI L K) := by
  refine F.ok scLaneI (fun vs H Q E h => ?_) (fun cdv A outer s H vs Q E hr h => ?_)
  · obtain ⟨x, dx, c, r, n, off, ts, ks, rfl, _⟩ := h
    rfl
  · obtain ⟨x, dx, c, r, n, off, ts, ks, rfl, hx, hc, cx, tp, le, k⟩ := h
    refine ⟨_, pss_cons (ps_fld (pv 0) (pv 1) rfl)
      (pss_cons (ps_fld (pv 0) (pv 2) rfl)
      (pss_cons (ps_fld (pv 0) (pe_lc (own := [("moment", 5), ("_", 6)]) (g := gTup K 2 (gCons (gName 5) (gCons (gName 6) gNil))) (tt := tYes) rfl scLaneI.nd (pi_list (pv 4))
          (blkOk_by (N := ["self", "rest", "step", "offset", "changes", "moment", "_", "changed"]) (sc := defScope sLaneI) (by decide +kernel)) (fun _ _ _ _ _ => pg_tup rfl (pgs_cons (pg_name (i := 5) scLaneI.nd rfl (.inl rfl)) (pgs_cons (pg_name (i := 6) scLaneI.nd rfl (.inl rfl)) pgs_nil))) (fun _ _ _ _ _ => pts_nil)
          (fun _ _ _ _ _ => (pv 5))) rfl)
      (pss_cons (ps_fld (pv 0) (pe_lst (pa_cons (pv 3) (StX.pa_star (pe_lc (own := [("_", 6), ("changed", 7)]) (g := gTup K 2 (gCons (gName 6) (gCons (gName 7) gNil))) (tt := tYes) rfl scLaneI.nd (pi_list (pv 4))
          (blkOk_by (N := ["self", "rest", "step", "offset", "changes", "moment", "_", "changed"]) (sc := defScope sLaneI) (by decide +kernel)) (fun _ _ _ _ _ => pg_tup rfl (pgs_cons (pg_name (i := 6) scLaneI.nd rfl (.inl rfl)) (pgs_cons (pg_name (i := 7) scLaneI.nd rfl (.inl rfl)) pgs_nil))) (fun _ _ _ _ _ => pts_nil)
          (fun _ _ _ _ _ => (pv 7))) pa_nil))) rfl)
      (pss_one (ps_fld (pv 0) (pe_lc (own := [("moment", 5), ("changed", 7)]) (g := gTup K 2 (gCons (gName 5) (gCons (gName 7) gNil))) (tt := tYes) rfl scLaneI.nd (pi_list (pv 4))
          (blkOk_by (N := ["self", "rest", "step", "offset", "changes", "moment", "_", "changed"]) (sc := defScope sLaneI) (by decide +kernel)) (fun _ _ _ _ _ => pg_tup rfl (pgs_cons (pg_name (i := 5) scLaneI.nd rfl (.inl rfl)) (pgs_cons (pg_name (i := 7) scLaneI.nd rfl (.inl rfl)) pgs_nil))) (fun _ _ _ _ _ => pts_nil)
          (fun _ _ _ _ _ => (pe_op op_add (pv 5) (pv 7)))) rfl))))), ?_⟩
    have tl := tp.len
    refine ⟨_, rfl, _, rfl, x, L, dx, _, rfl, hx, Z.cl, Z.nr, (by show 0 < 1000; decide), ?_⟩
    refine ⟨_, rfl, _, rfl, x, L, dx, _, rfl, upd_same, Z.cl, Z.ns, (by show 1 < 1000; decide), ?_⟩
    rw [upd_upd]
    generalize hH1 : upd H x (.ins L dx (putF "step" (.int n) (putF "rest" (.int r) []))) = H1
    have f1 : Fr x H H1 := by rw [← hH1]; exact Fr.at_
    have hx1 : H1 x = some (.ins L dx (putF "step" (.int n) (putF "rest" (.int r) []))) := by rw [← hH1]; exact upd_same
    have tx : ∀ t xs, H t = some (.tup xs) → t ≠ x := fun t xs e z => by rw [z, hx] at e; cases e
    have tp1 : Tups H1 ts ks := tp.imp fun t xs e => f1 _ _ e (tx t xs e)
    have hc1 := f1.seq cx hc
    refine ⟨_, rfl, c, rfl, ⟨_, hc1⟩, fun m hm => lc_chg (fun k => k.1) hc1 tp1 le hm (fun t k J N M e q => ⟨_, _, rfl, .inl (.inl e), rfl, _, _, rfl, _, [], rfl, rfl, rfl, _, rfl, q⟩) fun J1 h1 s1 => ?_⟩
    refine ⟨_, rfl, x, L, dx, _, rfl, s1 _ _ hx1, Z.cl, Z.nm, (by show 2 < 1000; decide), ?_⟩
    generalize hH2 : upd J1 x (.ins L dx (putF "marks" (.ref m) (putF "step" (.int n) (putF "rest" (.int r) [])))) = H2
    have f2' : Fr x J1 H2 := by rw [← hH2]; exact Fr.at_
    have f2 : Fr x H H2 := (f1.trans (Fr.of s1)).trans f2'
    have hx2 : H2 x = some (.ins L dx (putF "marks" (.ref m) (putF "step" (.int n) (putF "rest" (.int r) [])))) := by rw [← hH2]; exact upd_same
    have mx : m ≠ x := fun z => by rw [z, hx1] at hm; cases hm
    have h12 := f2' _ _ h1 mx
    have tp2 : Tups H2 ts ks := tp.imp fun t xs e => f2 _ _ e (tx t xs e)
    have hc2 := f2.seq cx hc
    refine ⟨_, rfl, _, rfl, c, rfl, ⟨_, hc2⟩, fun o' ho' => lc_chg (fun k => k.2) hc2 tp2 le ho' (fun t k J N M e q => ⟨_, _, rfl, .inl (.inl e), rfl, _, _, rfl, _, [], rfl, rfl, rfl, _, rfl, q⟩) fun J2 h2 s2 => ?_⟩
    refine ⟨o', _, rfl, .inr (SqL.of h2), (by rw [List.append_nil, List.length_cons, List.length_map, List.length_map, sizeLine_eq]; omega), fun o ho => ?_⟩
    rw [List.append_nil]
    have s3 := same_new (o := .lst (V.int off :: (ks.map fun k => k.2).map V.int)) ho
    have h3 := upd_same (H := J2) (a := o) (o := .lst (V.int off :: (ks.map fun k => k.2).map V.int))
    generalize upd J2 o (.lst (V.int off :: (ks.map fun k => k.2).map V.int)) = J3 at s3 h3 ⊢
    have s23 := s2.trans s3
    refine ⟨_, rfl, x, L, dx, _, rfl, s23 _ _ hx2, Z.cl, Z.no, (by show 3 < 1000; decide), ?_⟩
    generalize hH3 : upd J3 x (.ins L dx (putF "offsets" (.ref o) (putF "marks" (.ref m) (putF "step" (.int n) (putF "rest" (.int r) []))))) = H3
    have f3' : Fr x J3 H3 := by rw [← hH3]; exact Fr.at_
    have f3 : Fr x H H3 := (f2.trans (Fr.of s23)).trans f3'
    have hx3 : H3 x = some (.ins L dx (putF "offsets" (.ref o) (putF "marks" (.ref m) (putF "step" (.int n) (putF "rest" (.int r) []))))) := by rw [← hH3]; exact upd_same
    have ox : o ≠ x := fun z => by rw [z, s2 _ _ hx2] at ho; cases ho
    have tp3 : Tups H3 ts ks := tp.imp fun t xs e => f3 _ _ e (tx t xs e)
    have hc3 := f3.seq cx hc
    refine ⟨_, rfl, c, rfl, ⟨_, hc3⟩, fun g hg => lc_chg (fun k => k.1 + k.2) hc3 tp3 le hg (fun t k J N M e q => ⟨_, _, rfl, .inl (.inl e), rfl, _, _, rfl, _, [], rfl, rfl, rfl, _, rfl, _, rfl, _, _, rfl, rfl, q⟩) fun J4 h4 s4 => ?_⟩
    have gx : g ≠ x := fun z => by rw [z, hx3] at hg; cases hg
    refine ⟨_, rfl, x, L, dx, _, rfl, s4 _ _ hx3, Z.cl, Z.ng, (by show 4 < 1000; decide), ?_⟩
    generalize hH4 : upd J4 x (.ins L dx (putF "goals" (.ref g) (putF "offsets" (.ref o) (putF "marks" (.ref m) (putF "step" (.int n) (putF "rest" (.int r) [])))))) = H4
    have f4' : Fr x J4 H4 := by rw [← hH4]; exact Fr.at_
    have hx4 : H4 x = some (.ins L dx (laneF r n m o g)) := by rw [← hH4]; exact upd_same
    refine k H4 (fun av u hav nav => ⟨dx, m, o, g, hx4, f4' _ _ (s4 _ _ (f3' _ _ (s23 _ _ h12) mx)) mx, f4' _ _ (s4 _ _ (f3' _ _ h3 ox)) ox, f4' _ _ h4 gx, fun z => nav z.symm, fun z => ?_, fun z => ?_, fun z => ?_⟩) fun b u e nb => f4' _ _ (s4 _ _ (f3 _ _ e nb)) nb
    · rw [z, f1 _ _ hav nav] at hm
      cases hm
    · rw [z, s2 _ _ (f2 _ _ hav nav)] at ho
      cases ho
    · rw [z, f3 _ _ hav nav] at hg
      cases hg
theorem scLaneOff : FnScope ["self", "moment"] ["self", "moment"] (defScope sLaneOff) := ⟨rfl, rfl, rfl, by decide +kernel, rfl, by decide +kernel, by decide +kernel⟩
theorem ok_laneOff {f L fU : Addr} {fd dU : FuncData} (F : Fun K "offset" "Lane.offset" sLaneOff f fd) (Z : LaC K mg L) (U : At P w K mg base 1 "many_upto" ["numbers", "limit"] spUpto fU dU) : FnOk P w K mg base CX0 2 f fd ["self", "moment"] (spLaneOff L) := by
  refine F.ok scLaneOff (fun vs H Q E h => ?_) (fun cdv A outer s H vs Q E hr h => ?_)
  · obtain ⟨x, av, r, n, off, t, ks, rfl, _⟩ := h
    rfl
  · obtain ⟨x, av, r, n, off, t, ks, rfl, ⟨dx, m, o, g, hx, hm, ho, hg, _⟩, asc, q⟩ := h
    refine ⟨_, pss_one (ps_ret (pe_ix ix_list (pe_fld (pv 0) rfl) (pe_call U.ok hr (by rfl) U.at_ U.kp U.bi .nil pass0 (pa_cons (pe_fld (pv 0) rfl) (pa_cons (pv 1) pa_nil))) (fun _ _ => rfl))), ?_⟩
    refine ⟨_, rfl, x, L, dx, _, _, rfl, hx, Z.cl, Z.no, laneF_o r n m o g, _, rfl, x, L, dx, _, _, rfl, hx, Z.cl, Z.nm, laneF_m r n m o g, _, rfl, m, _, t, rfl, hm, asc, ?_⟩
    have lt : countUpto (ks.map (·.1)) t < (off :: ks.map (·.2)).length := by
      have := List.length_filter_le (fun n => decide (n ≤ t)) (ks.map (·.1))
      rw [List.length_map] at this
      rw [List.length_cons, List.length_map]
      unfold countUpto
      omega
    refine ⟨o, _, _, _, rfl, rfl, SqL.of ho, atI_nat (j := countUpto (ks.map (·.1)) t) (v := V.int (laneOff off ks t)) ?_, q⟩
    rw [List.getElem?_map, List.getElem?_eq_getElem lt]
    unfold laneOff
    rw [List.getD_eq_getElem?_getD, List.getElem?_eq_getElem lt]
    rfl
end

/-! ### rules -/
def ruF (b c l : Addr) : List (Str × V) := putF "_lanes" (.ref l) (putF "_changes" (.ref c) (putF "_base" (.ref b) []))
theorem ruF_b (b c l : Addr) : (ruF b c l).lookup ("_base" : Str) = some (.ref b) := by
  unfold ruF
  rw [lookup_putF, if_neg (by decide +kernel), lookup_putF, if_neg (by decide +kernel), lookup_putF, if_pos rfl]
theorem ruF_c (b c l : Addr) : (ruF b c l).lookup ("_changes" : Str) = some (.ref c) := by
  unfold ruF
  rw [lookup_putF, if_neg (by decide +kernel), lookup_putF, if_pos rfl]
theorem ruF_l (b c l : Addr) : (ruF b c l).lookup ("_lanes" : Str) = some (.ref l) := by
  unfold ruF
  rw [lookup_putF, if_pos rfl]
theorem ruF_no (b c l : Addr) {x : Str} (h1 : ¬ x = "_lanes") (h2 : ¬ x = "_changes") (h3 : ¬ x = "_base") : (ruF b c l).lookup x = none := by
  unfold ruF
  rw [lookup_putF, if_neg h1, lookup_putF, if_neg h2, lookup_putF, if_neg h3]
  rfl
/-- the changes of one lane -/
def share (cs : List (Int × Int)) (n i : Int) : List (Int × Int) := cs.filter fun k => decide (k.1 % n = i)
def LanesAt (L av : Addr) (H : Hp) (las : List Addr) (bs : List Int) (cs : List (Int × Int)) : Prop := ∀ (i : Nat) (a : Addr) (v : Int), las[i]? = some a → bs[i]? = some v → LaneAt L av H a i bs.length v (share cs bs.length i)
/-- a rule at x, apart from av -/
def RuAt (R L av : Addr) (H : Hp) (x : Addr) (bs : List Int) (cs : List (Int × Int)) : Prop := ∃ dx b c l ts las, H x = some (.ins R dx (ruF b c l)) ∧ H b = some (.lst (bs.map V.int)) ∧ H c = some (.lst (ts.map V.ref)) ∧ Tups H ts cs ∧ H l = some (.lst (las.map V.ref)) ∧ las.length = bs.length ∧
  LanesAt L av H las bs cs ∧ x ≠ av ∧ b ≠ av ∧ c ≠ av ∧ l ≠ av ∧ ∀ t ∈ ts, t ≠ av
theorem Tups.apart {H H' : Hp} {p : Addr} : ∀ {ts : List Addr} {ms : List (Int × Int)}, Tups H ts ms → Fr p H H' → (∀ t ∈ ts, t ≠ p) → Tups H' ts ms
  | [], [], _, _, _ => trivial
  | _ :: _, _ :: _, h, f, n => ⟨f _ _ h.1 (n _ List.mem_cons_self), Tups.apart h.2 f fun t m => n t (List.mem_cons_of_mem _ m)⟩
theorem RuAt.fr {R L av : Addr} {H H' : Hp} {x : Addr} {bs : List Int} {cs : List (Int × Int)} (h : RuAt R L av H x bs cs) (f : Fr av H H') : RuAt R L av H' x bs cs := by
  obtain ⟨dx, b, c, l, ts, las, h1, h2, h3, h4, h5, h6, h7, n1, n2, n3, n4, n5⟩ := h
  exact ⟨dx, b, c, l, ts, las, f _ _ h1 n1, f _ _ h2 n2, f _ _ h3 n3, h4.apart f n5, f _ _ h5 n4, h6, fun i a v e1 e2 => (h7 i a v e1 e2).fr f, n1, n2, n3, n4, n5⟩
theorem RuAt.same {R L av : Addr} {H H' : Hp} {x : Addr} {bs : List Int} {cs : List (Int × Int)} (h : RuAt R L av H x bs cs) (f : Same H H') : RuAt R L av H' x bs cs := h.fr (Fr.of f)
/-- the offset of the bare week, and with changes -/
def wkOff (bs : List Int) (t : Int) : Int := bs.getD (t % bs.length).toNat 0
def offAt (bs : List Int) (cs : List (Int × Int)) (t : Int) : Int := laneOff (wkOff bs t) (share cs bs.length (t % bs.length)) t
theorem offAt_nil (bs : List Int) (t : Int) : offAt bs [] t = wkOff bs t := rfl
def Asc (cs : List (Int × Int)) : Prop := (cs.map (·.1)).Pairwise (· ≤ ·)
theorem Asc.share {cs : List (Int × Int)} (h : Asc cs) (n i : Int) : ((share cs n i).map (·.1)).Pairwise (· ≤ ·) := h.sublist ((List.filter_sublist).map _)
structure RuC (K : PySem.W.Frag) (mg : Str → Option Value) (R : Addr) : Prop where
  cl : Cls K R
  nb : NoAttr K R "_base"
  nc : NoAttr K R "_changes"
  nl : NoAttr K R "_lanes"
  at_ : mg "Rule" = some (.ref R)
def spRuWeek (R L : Addr) : Sp := fun vs H Q _ => ∃ (x av : Addr) (bs : List Int) (cs : List (Int × Int)), vs = [.ref x] ∧ RuAt R L av H x bs cs ∧ Q (.int (bs.length : Nat)) H
def spRuBase (R L : Addr) : Sp := fun vs H Q _ => ∃ (x av : Addr) (bs : List Int) (cs : List (Int × Int)), vs = [.ref x] ∧ RuAt R L av H x bs cs ∧ ∀ q, H q = none → Q (.ref q) (upd H q (.lst (bs.map V.int)))
def ThR (R L : Addr) : Hp → Addr → List (Int × Int) → Prop := fun H x ms => ∃ av bs, RuAt R L av H x bs ms
theorem thR {R L : Addr} : ThOk R (ThR R L) := ⟨fun ⟨av, bs, h⟩ s => ⟨av, bs, h.same s⟩, fun ⟨av, bs, dx, b, c, l, ts, las, h, _⟩ => ⟨dx, _, h⟩⟩
def spRuOff (R L : Addr) : Sp := fun vs H Q _ => ∃ (x av : Addr) (t : Int) (bs : List Int) (cs : List (Int × Int)), vs = [.ref x, .int t] ∧ RuAt R L av H x bs cs ∧ 0 < bs.length ∧ Asc cs ∧ Q (.int (offAt bs cs t)) H
def spRuAns (R L : Addr) : Sp := fun vs H Q _ => ∃ (x av : Addr) (t : Int) (bs : List Int) (cs : List (Int × Int)), vs = [.ref x, .int t] ∧ RuAt R L av H x bs cs ∧ 0 < bs.length ∧ Asc cs ∧ Q (.int (t + offAt bs cs t)) H
section
variable {P : Program} {w : World} {K : PySem.W.Frag} {mg : Str → Option Value} {base : Heap}
theorem scRuWeek : FnScope ["self"] ["self"] (defScope sRuWeek) := ⟨rfl, rfl, rfl, by decide +kernel, rfl, by decide +kernel, by decide +kernel⟩
theorem scRuBase : FnScope ["self"] ["self"] (defScope sRuBase) := ⟨rfl, rfl, rfl, by decide +kernel, rfl, by decide +kernel, by decide +kernel⟩
theorem scRuChanges : FnScope ["self"] ["self"] (defScope sRuChanges) := ⟨rfl, rfl, rfl, by decide +kernel, rfl, by decide +kernel, by decide +kernel⟩
theorem ok_ruWeek {f R L : Addr} {fd : FuncData} (F : Fun K "week" "Rule.week" sRuWeek f fd) (Z : RuC K mg R) (T : Blt mg) : FnOk P w K mg base CX0 1 f fd ["self"] (spRuWeek R L) := by
  refine F.ok scRuWeek (fun vs H Q E h => ?_) (fun cdv A outer s H vs Q E hr h => ?_)
  · obtain ⟨x, av, bs, cs, rfl, _⟩ := h
    rfl
  · obtain ⟨x, av, bs, cs, rfl, ⟨dx, b, c, l, ts, las, hx, hb, _⟩, k⟩ := h
    refine ⟨_, pss_one (ps_ret (pe_callB call_len_seq (by rfl) T.len PySem.boot_len (pa_cons (pe_fld (pv 0) rfl) pa_nil))), ?_⟩
    refine ⟨_, rfl, x, R, dx, _, _, rfl, hx, Z.cl, Z.nb, ruF_b b c l, b, _, rfl, .inl (SqL.of hb), ?_⟩
    rw [List.length_map]
    exact k
theorem ok_ruBase {f R L : Addr} {fd : FuncData} (F : Fun K "base" "Rule.base" sRuBase f fd) (Z : RuC K mg R) (T : Blt mg) : FnOk P w K mg base CX0 1 f fd ["self"] (spRuBase R L) := by
  refine F.ok scRuBase (fun vs H Q E h => ?_) (fun cdv A outer s H vs Q E hr h => ?_)
  · obtain ⟨x, av, bs, cs, rfl, _⟩ := h
    rfl
  · obtain ⟨x, av, bs, cs, rfl, ⟨dx, b, c, l, ts, las, hx, hb, _⟩, k⟩ := h
    refine ⟨_, pss_one (ps_ret (pe_callTy call_list_of (by rfl) T.list (by decide +kernel) (pa_cons (pe_fld (pv 0) rfl) pa_nil))), ?_⟩
    exact ⟨_, rfl, x, R, dx, _, _, rfl, hx, Z.cl, Z.nb, ruF_b b c l, b, _, rfl, .inl (SqL.of hb), k⟩
theorem ok_ruChanges {f R L : Addr} {fd : FuncData} (F : Fun K "changes" "Rule.changes" sRuChanges f fd) (Z : RuC K mg R) (T : Blt mg) : FnOk P w K mg base CX0 1 f fd ["self"] (spChOf (ThR R L)) := by
  refine F.ok scRuChanges (fun vs H Q E h => ?_) (fun cdv A outer s H vs Q E hr h => ?_)
  · obtain ⟨x, ms, rfl, _⟩ := h
    rfl
  · obtain ⟨x, cs, rfl, ⟨av, bs, dx, b, c, l, ts, las, hx, hb, hc, tp, _⟩, k⟩ := h
    refine ⟨_, pss_one (ps_ret (pe_callTy call_list_of (by rfl) T.list (by decide +kernel) (pa_cons (pe_fld (pv 0) rfl) pa_nil))), ?_⟩
    refine ⟨_, rfl, x, R, dx, _, _, rfl, hx, Z.cl, Z.nc, ruF_c b c l, c, _, rfl, .inl (SqL.of hc), fun q hq => ?_⟩
    exact k _ q ts (same_new hq) hq upd_same (tp.same (same_new hq))
theorem scRuOff : FnScope ["self", "moment"] ["self", "moment"] (defScope sRuOff) := ⟨rfl, rfl, rfl, by decide +kernel, rfl, by decide +kernel, by decide +kernel⟩
theorem ok_ruOff {f R L fO : Addr} {fd dO : FuncData} (F : Fun K "offset" "Rule.offset" sRuOff f fd) (Z : RuC K mg R) (T : Blt mg) (ZL : LaC K mg L) (hLO : Meth K L "offset" fO) (GLO : FnOk P w K mg base CX0 2 fO dO ["self", "moment"] (spLaneOff L)) (bLO : Binds K dO ["self", "moment"] []) :
    FnOk P w K mg base CX0 3 f fd ["self", "moment"] (spRuOff R L) := by
  refine F.ok scRuOff (fun vs H Q E h => ?_) (fun cdv A outer s H vs Q E hr h => ?_)
  · obtain ⟨x, av, t, bs, cs, rfl, _⟩ := h
    rfl
  · obtain ⟨x, av, t, bs, cs, rfl, ⟨dx, b, c, l, ts, las, hx, hb, hc, tp, hl, ll, la, _⟩, l0, asc, q⟩ := h
    refine ⟨_, pss_one (ps_ret (pe_meth (pe_ix ix_list (pe_fld (pv 0) rfl) (pe_op op_mod (pv 1) (pe_callB call_len_seq (by rfl) T.len PySem.boot_len (pa_cons (pe_fld (pv 0) rfl) pa_nil))) (fun _ _ => rfl)) ZL.cl hLO GLO hr bLO .nil pass0 (pa_cons (pv 1) pa_nil))), ?_⟩
    have h0 := Int.emod_nonneg t (show (bs.length : Int) ≠ 0 by omega)
    have h1 := Int.emod_lt_of_pos t (show (0 : Int) < bs.length by omega)
    have hj : (t % (bs.length : Int)).toNat < las.length := by omega
    have hj2 : (t % (bs.length : Int)).toNat < bs.length := by omega
    have ej : t % ((las.map V.ref).length : Nat) = (((t % (bs.length : Int)).toNat : Nat) : Int) := by
      rw [List.length_map, ll]
      omega
    have lane := la _ _ _ (List.getElem?_eq_getElem hj) (List.getElem?_eq_getElem hj2)
    have lane' := lane
    obtain ⟨da, m, o, g, ha, _⟩ := lane'
    refine ⟨_, rfl, x, R, dx, _, _, rfl, hx, Z.cl, Z.nl, ruF_l b c l, _, rfl, _, rfl, x, R, dx, _, _, rfl, hx, Z.cl, Z.nl, ruF_l b c l, l, _, rfl, .inl (SqL.of hl), _, _, rfl, rfl, (by rw [List.length_map]; omega),
      l, _, _, _, rfl, rfl, SqL.of hl, at_of (j := (t % (bs.length : Int)).toNat) (v := V.ref las[(t % (bs.length : Int)).toNat]) ej (by rw [List.getElem?_map, List.getElem?_eq_getElem hj]; rfl),
      _, da, _, rfl, ha, laneF_no _ _ _ _ _ (by decide +kernel) (by decide +kernel) (by decide +kernel) (by decide +kernel) (by decide +kernel), _, rfl, ⟨_, av, _, _, _, t, _, rfl, lane, asc.share _ _, ?_⟩⟩
    have e : offAt bs cs t = laneOff bs[(t % (bs.length : Int)).toNat] (share cs bs.length ((t % (bs.length : Int)).toNat : Nat)) t := by
      unfold offAt wkOff
      rw [List.getD_eq_getElem?_getD, List.getElem?_eq_getElem hj2, Int.toNat_of_nonneg h0]
      rfl
    rw [e] at q
    exact q
theorem scRuAns : FnScope ["self", "moment"] ["self", "moment"] (defScope sRuAns) := ⟨rfl, rfl, rfl, by decide +kernel, rfl, by decide +kernel, by decide +kernel⟩
theorem ok_ruAns {f R L fO : Addr} {fd dO : FuncData} (F : Fun K "answer" "Rule.answer" sRuAns f fd) (Z : RuC K mg R) (hRO : Meth K R "offset" fO) (GRO : FnOk P w K mg base CX0 3 fO dO ["self", "moment"] (spRuOff R L)) (bRO : Binds K dO ["self", "moment"] []) :
    FnOk P w K mg base CX0 4 f fd ["self", "moment"] (spRuAns R L) := by
  refine F.ok scRuAns (fun vs H Q E h => ?_) (fun cdv A outer s H vs Q E hr h => ?_)
  · obtain ⟨x, av, t, bs, cs, rfl, _⟩ := h
    rfl
  · obtain ⟨x, av, t, bs, cs, rfl, ru, l0, asc, q⟩ := h
    refine ⟨_, pss_one (ps_ret (pe_op op_add (pv 1) (pe_meth (pv 0) Z.cl hRO GRO hr bRO .nil pass0 (pa_cons (pv 1) pa_nil)))), ?_⟩
    obtain ⟨dx, b, c, l, _, _, hx, _⟩ := id ru
    exact ⟨_, rfl, _, rfl, x, dx, _, rfl, hx, ruF_no b c l (by decide +kernel) (by decide +kernel) (by decide +kernel), _, rfl, ⟨x, av, t, bs, cs, rfl, ru, l0, asc, _, _, rfl, rfl, q⟩⟩
theorem scRuCall : FnScope ["self", "moment"] ["self", "moment"] (defScope sRuCall) := ⟨rfl, rfl, rfl, by decide +kernel, rfl, by decide +kernel, by decide +kernel⟩
theorem ok_ruCall {f R L fA : Addr} {fd dA : FuncData} (F : Fun K "__call__" "Rule.__call__" sRuCall f fd) (Z : RuC K mg R) (hRA : Meth K R "answer" fA) (GRA : FnOk P w K mg base CX0 4 fA dA ["self", "moment"] (spRuAns R L)) (bRA : Binds K dA ["self", "moment"] []) :
    FnOk P w K mg base CX0 5 f fd ["self", "moment"] (spRuAns R L) := by
  refine F.ok scRuCall (fun vs H Q E h => ?_) (fun cdv A outer s H vs Q E hr h => ?_)
  · obtain ⟨x, av, t, bs, cs, rfl, _⟩ := h
    rfl
  · obtain ⟨x, av, t, bs, cs, rfl, ru, l0, asc, q⟩ := h
    refine ⟨_, pss_one (ps_ret (pe_meth (pv 0) Z.cl hRA GRA hr bRA .nil pass0 (pa_cons (pv 1) pa_nil))), ?_⟩
    obtain ⟨dx, b, c, l, _, _, hx, _⟩ := id ru
    exact ⟨_, rfl, x, dx, _, rfl, hx, ruF_no b c l (by decide +kernel) (by decide +kernel) (by decide +kernel), _, rfl, ⟨x, av, t, bs, cs, rfl, ru, l0, asc, q⟩⟩
end

/-! ### rules without changes: how they are made -/
def spTelling0 (K : PySem.W.Frag) : Sp := fun vs H Q _ => ∃ (a c : Addr) (bs : List Int), vs = [.ref a, .ref c] ∧ SqL K H a (bs.map V.int) ∧ SqL K H c [] ∧ ∀ (H' : Hp) (q : Addr), Same H H' → H q = none → H' q = some (.lst []) → Q (.ref q) H'
def spLanes0 (L : Addr) (K : PySem.W.Frag) : Sp := fun vs H Q _ => ∃ (a c : Addr) (bs : List Int), vs = [.ref a, .ref c] ∧ SqL K H a (bs.map V.int) ∧ SqL K H c [] ∧ bs.length ≤ 12 ∧
  ∀ (H' : Hp) (q : Addr) (las : List Addr), Same H H' → H q = none → H' q = some (.lst (las.map V.ref)) → las.length = bs.length → (∀ l ∈ las, H l = none) → (∀ av o, H av = some o → LanesAt L av H' las bs []) → Q (.ref q) H'
def spAscend0 (K : PySem.W.Frag) : Sp := fun vs H Q _ => ∃ c : Addr, vs = [.ref c] ∧ SqL K H c [] ∧ Q .non H
def spBeside : Sp := fun vs H Q _ => ∃ (a : Addr) (cs : List Int) (n z : Int), vs = [.ref a, .int n, .int z] ∧ H a = some (.lst (cs.map V.int)) ∧ 0 ≤ n ∧ cs.length + n.toNat ≤ 30 ∧ (-(2 ^ 60) ≤ z ∧ z ≤ 2 ^ 60 ∧ n ≤ 12) ∧
  ∀ (H' : Hp) (q : Addr) (ks : List Int), Same H H' → H q = none → H' q = some (.lst (ks.map V.int)) → ks.length ≤ 60 → Q (.ref q) H'
/-- values rise from each moment to the next one -/
def Rises (bs : List Int) : Prop := ∀ t : Int, wkOff bs t ≤ wkOff bs (t + 1) + 1
def spRising0 (R L : Addr) : Sp := fun vs H Q _ => ∃ (x av : Addr) (bs : List Int), vs = [.ref x] ∧ RuAt R L av H x bs [] ∧ 0 < bs.length ∧ bs.length ≤ 12 ∧ Rises bs ∧ ∀ H', Same H H' → Q .non H'
def spRuI0 (R L : Addr) (K : PySem.W.Frag) : Sp := fun vs H Q _ => ∃ (x dx a c : Addr) (bs : List Int), vs = [.ref x, .ref a, .ref c] ∧ H x = some (.ins R dx []) ∧ H dx = some (.own x) ∧ dx ≠ x ∧ SqL K H a (bs.map V.int) ∧ SqL K H c [] ∧ a ≠ x ∧ c ≠ x ∧ 0 < bs.length ∧ bs.length ≤ 12 ∧ Rises bs ∧
  ∀ H', (∀ av o, H av = some o → av ≠ x → RuAt R L av H' x bs []) → (∀ b o, H b = some o → b ≠ x → H' b = some o) → Q .non H'
section
variable {P : Program} {w : World} {K : PySem.W.Frag} {mg : Str → Option Value} {base : Heap}
theorem scAscend : FnScope ["changes", "index"] ["changes"] (defScope sAscend) := ⟨rfl, rfl, rfl, by decide +kernel, rfl, by decide +kernel, by decide +kernel⟩
theorem ok_ascend0 {f fB : Addr} {fd dB : FuncData} (F : Fun K "check_ascending" "check_ascending" sAscend f fd) (T : Blt mg) (B : At P w K mg base 1 "is_behind" ["changes", "index"] (spBehind K) fB dB) : FnOk P w K mg base CX0 2 f fd ["changes"] (spAscend0 K) := by
  refine F.ok scAscend (fun vs H Q E h => ?_) (fun cdv A outer s H vs Q E hr h => ?_)
  · obtain ⟨c, rfl, _⟩ := h
    rfl
  · obtain ⟨c, rfl, hc, q⟩ := h
    refine ⟨_, pss_one (ps_for PassesOwn.never rfl (pi_range1 (by rfl) T.range (pa_cons (pe_callB call_len_seq (by rfl) T.len PySem.boot_len (pa_cons (pv 0) pa_nil)) pa_nil)) (pg_name (i := 1) scAscend.nd rfl (.inl rfl))
        (pss_one (ps_if (pt_not (pt_val (pe_call B.ok hr (by rfl) B.at_ B.kp B.bi .nil pass0 (pa_cons (pv 0) (pa_cons (pv 1) pa_nil)))))
          (pss_one ps_never)
          pss_nil))), ?_⟩
    refine ⟨_, rfl, c, _, rfl, .inl hc, _, rfl, (by decide), (by decide), for_it walk_range (fun i σ J => J = H) rfl (fun i σ J _ _ => trivial) ?_ ?_⟩
    · rintro i v σ J J' hi rfl _
      simp at hi
    · rintro σ J rfl
      exact q
theorem scTelling : FnScope ["base", "changes", "offsets", "told", "moment", "offset", "rest"] ["base", "changes"] (defScope sTelling) := ⟨rfl, rfl, rfl, by decide +kernel, rfl, by decide +kernel, by decide +kernel⟩
theorem ok_telling0 {f : Addr} {fd : FuncData} (F : Fun K "telling_changes" "telling_changes" sTelling f fd) (T : Blt mg) : FnOk P w K mg base CX0 1 f fd ["base", "changes"] (spTelling0 K) := by
  refine F.ok scTelling (fun vs H Q E h => ?_) (fun cdv A outer s H vs Q E hr h => ?_)
  · obtain ⟨a, c, bs, rfl, _⟩ := h
    rfl
  · obtain ⟨a, c, bs, rfl, ha, hc, k⟩ := h
    refine ⟨_, pss_cons (ps_set (i := 2) scTelling.nd rfl (.inl rfl) (pe_callTy call_list_of (by rfl) T.list (by decide +kernel) (pa_cons (pv 0) pa_nil)))
      (pss_cons (ps_set (i := 3) scTelling.nd rfl (.inl rfl) (pe_lst pa_nil))
      (pss_cons (ps_for PassesOwn.never rfl (pi_list (pv 1)) (pg_tup rfl (pgs_cons (pg_name (i := 4) scTelling.nd rfl (.inl rfl)) (pgs_cons (pg_name (i := 5) scTelling.nd rfl (.inl rfl)) pgs_nil)))
        (pss_cons (ps_set (i := 6) scTelling.nd rfl (.inl rfl) (pe_op op_mod (pv 4) (pe_callB call_len_seq (by rfl) T.len PySem.boot_len (pa_cons (pv 2) pa_nil))))
        (C8.pss_cut (ps_if (pt_cmpR op_ne (pv 5) (pe_ix ix_list (pv 2) (pv 6) (fun _ _ => rfl)) (nomark _))
          (pss_one (ps_expr (pe_bm PySem.F.plainAttrs_list PySem.F.slot_list_append PySem.F.type_list_append mt_append (pv 3) (pa_cons (pe_tup (pa_cons (pv 4) (pa_cons (pv 5) pa_nil))) pa_nil))))
          pss_nil)
        (pss_one (ps_asg (pv 5) (pg_sub (pv 2) (pv 6) set_list))))))
      (pss_one (ps_ret (pv 3))))), ?_⟩
    refine ⟨_, rfl, a, _, rfl, .inl ha, fun o ho => ?_⟩
    have s1 := same_new (o := .lst (bs.map V.int)) ho
    refine ⟨(by show 0 ≤ sizeLine; decide), fun q hq => ?_⟩
    have s2 := same_new (o := .lst []) hq
    have s12 := s1.trans s2
    refine ⟨_, rfl, c, rfl, ⟨_, s12.seq hc⟩, for_it (walk_list (K := K) (a := c) (xs := [])) (fun i σ J => σ = [some (.ref a), some (.ref c), some (.ref o), some (.ref q), none, none, none] ∧ J = upd (upd H o (.lst (bs.map V.int))) q (.lst [])) ⟨rfl, rfl⟩ (fun i σ J _ ⟨_, e⟩ => by rw [e]; exact s12.seq hc) ?_ ?_⟩
    · rintro i v σ J J' hi _ _
      exact absurd hi (Nat.not_lt_zero _)
    · rintro σ J ⟨rfl, rfl⟩
      exact ⟨_, rfl, k _ q s12 (s1.free hq) upd_same⟩
theorem scLanes : FnScope ["base", "changes", "shares", "moment", "offset", "_", "rest", "share"] ["base", "changes"] (defScope sLanes) := ⟨rfl, rfl, rfl, by decide +kernel, rfl, by decide +kernel, by decide +kernel⟩
theorem ok_lanes0 {f L fI : Addr} {fd dI : FuncData} (F : Fun K "lanes_of" "lanes_of" sLanes f fd) (T : Blt mg) (ne : mg "enumerate" = none) (ZL : LaC K mg L) (ML : Mk K L fI) (GLI : FnOk P w K mg base CX0 1 fI dI ["self", "rest", "step", "offset", "changes"] (spLaneI L K)) (bLI : Binds K dI ["self", "rest", "step", "offset", "changes"] []) :
    FnOk P w K mg base CX0 3 f fd ["base", "changes"] (spLanes0 L K) := by
  refine F.ok scLanes (fun vs H Q E h => ?_) (fun cdv A outer s H vs Q E hr h => ?_)
  · obtain ⟨a, c, bs, rfl, _⟩ := h
    rfl
  · obtain ⟨a, c, bs, rfl, ha, hc, l1, k⟩ := h
    refine ⟨_, pss_cons (ps_setLc (i := 2) (own := [("_", 5)]) (g := gName 5) (tt := tYes) rfl scLanes.nd rfl rfl (sw_true rfl rfl rfl (by decide +kernel)) (pi_list (pv 0))
          (blkOk_by (N := ["base", "changes", "shares", "moment", "offset", "_", "rest", "share"]) (sc := defScope sLanes) (by decide +kernel)) (fun _ _ _ _ _ => pg_name (i := 5) scLanes.nd rfl (.inl rfl)) (fun _ _ _ _ _ => pts_nil)
          (fun _ _ _ _ _ => (pe_lst pa_nil)))
      (pss_cons (ps_for PassesOwn.never rfl (pi_list (pv 1)) (pg_tup rfl (pgs_cons (pg_name (i := 3) scLanes.nd rfl (.inl rfl)) (pgs_cons (pg_name (i := 4) scLanes.nd rfl (.inl rfl)) pgs_nil)))
        (pss_one (ps_expr (pe_bm PySem.F.plainAttrs_list PySem.F.slot_list_append PySem.F.type_list_append mt_append (pe_ix ix_list (pv 2) (pe_op op_mod (pv 3) (pe_callB call_len_seq (by rfl) T.len PySem.boot_len (pa_cons (pv 0) pa_nil))) (fun _ _ => rfl)) (pa_cons (pe_tup (pa_cons (pv 3) (pa_cons (pv 4) pa_nil))) pa_nil)))))
      (pss_one (ps_ret (pe_lc (own := [("rest", 6), ("share", 7)]) (g := gTup K 2 (gCons (gName 6) (gCons (gName 7) gNil))) (tt := tYes) rfl scLanes.nd (pi_enum (by rfl) ne (pa_cons (pv 2) pa_nil))
          (blkOk_by (N := ["base", "changes", "shares", "moment", "offset", "_", "rest", "share"]) (sc := defScope sLanes) (by decide +kernel)) (fun _ _ _ _ _ => pg_tup rfl (pgs_cons (pg_name (i := 6) scLanes.nd rfl (.inl rfl)) (pgs_cons (pg_name (i := 7) scLanes.nd rfl (.inl rfl)) pgs_nil))) (fun _ _ _ _ _ => pts_nil)
          (fun _ _ _ _ _ => (pe_make ML GLI hr (by rfl) ZL.at_ bLI .nil pass0 (pa_cons (pv 6) (pa_cons (pe_callB (r := rLen K) call_len_seq (by rfl) T.len PySem.boot_len (pa_cons (pv 0) pa_nil)) (pa_cons (pe_ix (r := rIxL K) ix_list (pv 0) (pv 6) (fun _ _ => rfl)) (pa_cons (pv 7) pa_nil)))))))))), ?_⟩
    refine ⟨_, rfl, a, rfl, ⟨_, ha⟩, fun D hD => lc_list (K := K) (a := a) (xs := bs.map V.int) (fun i J => ∃ ss : List Addr, J D = some (.lst (ss.map V.ref)) ∧ ss.length = i ∧ (∀ t ∈ ss, J t = some (.lst []) ∧ t ≠ D) ∧ Same H J) ⟨[], upd_same, rfl, (fun t ht => nomatch ht), same_new hD⟩
      (fun i J _ ⟨_, _, _, _, h⟩ => h.seq ha) ?_ ?_⟩
    · rintro i v J hi ⟨ss, hJ, hl, hs, sJ⟩
      refine ⟨rfl, (by show 0 ≤ sizeLine; decide), fun e ne => ?_⟩
      have De : D ≠ e := ne_of_none hJ ne
      have hi2 : i < bs.length := by
        have := (List.getElem?_eq_some_iff.mp hi).1
        simpa using this
      refine ⟨_, by rw [upd_ne De]; exact hJ, by rw [List.length_map, hl]; exact small1000 (by omega), ss ++ [e], ?_, ?_, fun t ht => ?_, fun b o h => ?_⟩
      · rw [upd_same, List.map_append]
        rfl
      · rw [List.length_append, hl]
        rfl
      · rcases List.mem_append.mp ht with ht | ht
        · obtain ⟨h1, h2⟩ := hs t ht
          refine ⟨?_, h2⟩
          rw [upd_ne h2, upd_ne (ne_of_none h1 ne)]
          exact h1
        · obtain rfl := List.mem_singleton.mp ht
          refine ⟨?_, De.symm⟩
          rw [upd_ne De.symm]
          exact upd_same
      · rw [upd_ne (ne_of_none h hD), upd_ne (ne_of_none (sJ _ _ h) ne)]
        exact sJ _ _ h
    · rintro J ⟨ss, hJ, hl, hs, sJ⟩
      rw [List.length_map] at hl
      refine ⟨_, rfl, c, rfl, ⟨_, sJ.seq hc⟩, for_it (walk_list (K := K) (a := c) (xs := [])) (fun i σ J2 => σ = [some (.ref a), some (.ref c), some (.ref D), none, none, none, none, none] ∧ J2 = J) ⟨rfl, rfl⟩ (fun i σ J2 _ ⟨_, e⟩ => by rw [e]; exact sJ.seq hc) ?_ ?_⟩
      · rintro i v σ J2 J' hi _ _
        exact absurd hi (Nat.not_lt_zero _)
      · rintro σ J2 ⟨rfl, rfl⟩
        refine ⟨_, rfl, D, _, rfl, SqL.of hJ, fun D2 hD2 => ?_⟩
        refine lc_it (walk_enum (K := K) (a := D) (xs := ss.map V.ref)) (fun i I => ∃ las : List Addr, I D2 = some (.lst (las.map V.ref)) ∧ las.length = i ∧ (∀ l ∈ las, H l = none) ∧ (∀ av, (av = D2 ∨ ∃ o, H av = some o) → ∀ (j : Nat) (a : Addr) (v : Int), las[j]? = some a → bs[j]? = some v → LaneAt L av I a j bs.length v []) ∧ Same J2 I)
          ⟨[], upd_same, rfl, (fun t ht => nomatch ht), (fun av _ j a v e => by rw [List.getElem?_nil] at e; cases e), same_new hD2⟩ (fun i I _ ⟨_, _, _, _, _, h⟩ => SqL.of (h _ _ hJ)) ?_ ?_
        · rintro i v I I' hi ⟨las, hI, lI, fr, la, sI⟩ ⟨T', x1, x2, rfl, nT, rfl, e1, e2⟩
          obtain rfl := Option.some.inj e1
          have hi' : i < ss.length := by simpa using hi
          replace e2 : (List.map _ _)[i]? = some x2 := e2
          rw [List.getElem?_map, List.getElem?_eq_getElem hi'] at e2
          obtain rfl := Option.some.inj e2
          have sT := same_new (o := .tup [.int (i : Nat), .ref ss[i]]) nT
          have hb : i < bs.length := by omega
          have sIT := sI.trans sT
          have sA := (sJ.trans sIT)
          have hS := sIT _ _ (hs _ (List.getElem_mem hi')).1
          refine ⟨T', _, rfl, .inl (.inl upd_same), rfl, _, _, rfl, _, [], rfl, rfl, rfl, ?_⟩
          refine ⟨_, rfl, _, rfl, a, _, rfl, .inl (sA.seq ha), _, rfl, _, rfl, a, _, _, _, rfl, rfl, sA.seq ha, atI_nat (j := i) (v := V.int bs[i]) (by rw [List.getElem?_map, List.getElem?_eq_getElem hb]; rfl), _, rfl, fun x dx hx hd dn => ?_⟩
          have s1 := same_new (o := HO.own x) hd
          have hx1 : upd (upd I T' (.tup [.int (i : Nat), .ref ss[i]])) dx (.own x) x = none := by rw [upd_ne dn.symm]; exact hx
          have s2 := same_new (o := .ins L dx []) hx1
          have s012 := sIT.trans (s1.trans s2)
          have hxn := (sT.trans s1).trans s2
          refine ⟨x, dx, ss[i], _, _, _, [], [], rfl, upd_same, SqL.of ((s1.trans s2) _ _ hS), ne_of_none hS hx, trivial, (by show 0 ≤ 900; decide), fun H' lane keep => ⟨rfl, ?_⟩⟩
          · have D2x : D2 ≠ x := fun z => by rw [← z, sT _ _ hI] at hx; cases hx
            have nx : ∀ {b o}, I b = some o → b ≠ x := fun {b o} e z => by rw [← z, sT _ _ e] at hx; cases hx
            have kp : ∀ b o, I b = some o → H' b = some o := fun b o e => keep _ _ (hxn _ _ e) (nx e)
            have hI' := kp _ _ hI
            refine ⟨_, hI', by rw [List.length_map, lI]; exact small1000 (by omega), las ++ [x], ?_, ?_, fun l hl => ?_, fun av hav j a' v' ea eb => ?_, fun b o e => ?_⟩
            · rw [upd_same, List.map_append]
              rfl
            · rw [List.length_append, lI]
              rfl
            · rcases List.mem_append.mp hl with hl | hl
              · exact fr l hl
              · obtain rfl := List.mem_singleton.mp hl
                exact sA.free hx
            · have fD : Fr D2 H' (upd H' D2 (.lst (las.map V.ref ++ [.ref x]))) := Fr.at_
              have avx : av ≠ x := by
                rcases hav with rfl | ⟨o, ho⟩
                · exact D2x
                · exact nx (sI _ _ (sJ _ _ ho))
              have avs : ∃ o, upd (upd (upd I T' (.tup [.int (i : Nat), .ref ss[i]])) dx (.own x)) x (.ins L dx []) av = some o := by
                rcases hav with rfl | ⟨o, ho⟩
                · exact ⟨_, hxn _ _ hI⟩
                · exact ⟨_, hxn _ _ (sI _ _ (sJ _ _ ho))⟩
              obtain ⟨o2, ho2⟩ := avs
              have both : LaneAt L av H' a' j bs.length v' [] ∧ LaneAt L D2 H' a' j bs.length v' [] := by
                rcases Nat.lt_or_ge j las.length with hj | hj
                · rw [List.getElem?_append_left hj] at ea
                  have h1 := la av hav j a' v' ea eb
                  have h2 := la D2 (.inl rfl) j a' v' ea eb
                  exact ⟨h1.same kp, h2.same kp⟩
                · have hj2 : j = las.length := by
                    have := (List.getElem?_eq_some_iff.mp ea).1
                    rw [List.length_append] at this
                    simp at this
                    omega
                  subst hj2
                  rw [List.getElem?_append_right (Nat.le_refl _), Nat.sub_self] at ea
                  obtain rfl := Option.some.inj ea
                  rw [lI, List.getElem?_eq_getElem hb] at eb
                  obtain rfl := Option.some.inj eb
                  rw [lI]
                  have z1 := lane av _ ho2 avx
                  have z2 := lane D2 _ (hxn _ _ hI) D2x
                  rw [List.length_map] at z1 z2
                  exact ⟨z1, z2⟩
              obtain ⟨z1, z2⟩ := both
              exact z1.mix z2 fD
            · have := kp _ _ (sI _ _ e)
              rw [upd_ne (ne_of_none e hD2)]
              exact this
        · rintro I ⟨las, hI, lI, fr, la, sI⟩
          rw [List.length_map, hl] at lI
          exact k I D2 las (sJ.trans sI) (sJ.free hD2) hI lI fr fun av o ho i a v e1 e2 => la av (.inr ⟨o, ho⟩) i a v e1 e2
end

/-! ### rules with changes: how they are made -/
/-- one change told: the week's offsets behind it, and the changes that tell something so far -/
def tellStep (n : Int) (p : List Int × List (Int × Int)) (c : Int × Int) : List Int × List (Int × Int) := (p.1.set (c.1 % n).toNat c.2, if c.2 = p.1.getD (c.1 % n).toNat 0 then p.2 else p.2 ++ [c])
def tell (bs : List Int) (cs : List (Int × Int)) : List Int × List (Int × Int) := cs.foldl (tellStep bs.length) (bs, [])
theorem tell_snoc (bs : List Int) (cs : List (Int × Int)) (c : Int × Int) : tell bs (cs ++ [c]) = tellStep bs.length (tell bs cs) c := by
  unfold tell
  rw [List.foldl_append]
  rfl
theorem tell_len (bs : List Int) (cs : List (Int × Int)) : (tell bs cs).1.length = bs.length := by
  suffices h : ∀ (p : List Int × List (Int × Int)) (n : Int), (cs.foldl (tellStep n) p).1.length = p.1.length from h (bs, []) bs.length
  induction cs with
  | nil => intro p n; rfl
  | cons c cs ih =>
    intro p n
    rw [List.foldl_cons, ih]
    unfold tellStep
    rw [List.length_set]
theorem tell_le (bs : List Int) (cs : List (Int × Int)) : (tell bs cs).2.length ≤ cs.length := by
  suffices h : ∀ (p : List Int × List (Int × Int)) (n : Int), (cs.foldl (tellStep n) p).2.length ≤ p.2.length + cs.length by
    have := h (bs, []) bs.length
    simpa [tell] using this
  induction cs with
  | nil => intro p n; exact Nat.le_refl _
  | cons c cs ih =>
    intro p n
    rw [List.foldl_cons]
    refine Nat.le_trans (ih _ _) ?_
    have : (tellStep n p c).2.length ≤ p.2.length + 1 := by
      unfold tellStep
      show (if c.2 = p.1.getD (c.1 % n).toNat 0 then p.2 else p.2 ++ [c]).length ≤ _
      split
      · omega
      · rw [List.length_append]
        exact Nat.le_refl _
    rw [List.length_cons]
    omega
def spTelling (K : PySem.W.Frag) : Sp := fun vs H Q _ => ∃ (a c : Addr) (bs : List Int) (ts : List Addr) (cs : List (Int × Int)), vs = [.ref a, .ref c] ∧ SqL K H a (bs.map V.int) ∧ SqL K H c (ts.map V.ref) ∧ Tups H ts cs ∧ 0 < bs.length ∧ bs.length ≤ 900 ∧ cs.length ≤ 900 ∧
  ∀ (H' : Hp) (q : Addr) (us : List Addr), Same H H' → H q = none → (∀ t ∈ us, H t = none) → H' q = some (.lst (us.map V.ref)) → Tups H' us (tell bs cs).2 → Q (.ref q) H'
theorem ixN_at {n r : Nat} (h : r < n) : ixN n (r : Nat) = some r := by
  unfold ixN
  simp [h]
section
variable {P : Program} {w : World} {K : PySem.W.Frag} {mg : Str → Option Value} {base : Heap}
theorem ok_telling {f : Addr} {fd : FuncData} (F : Fun K "telling_changes" "telling_changes" sTelling f fd) (T : Blt mg) : FnOk P w K mg base CX0 1 f fd ["base", "changes"] (spTelling K) := by
  refine F.ok scTelling (fun vs H Q E h => ?_) (fun cdv A outer s H vs Q E hr h => ?_)
  · obtain ⟨a, c, bs, ts, cs, rfl, _⟩ := h
    rfl
  · obtain ⟨a, c, bs, ts, cs, rfl, ha, hc, tp, l0, l1, l2, k⟩ := h
    refine ⟨_, pss_cons (ps_set (i := 2) scTelling.nd rfl (.inl rfl) (pe_callTy call_list_of (by rfl) T.list (by decide +kernel) (pa_cons (pv 0) pa_nil)))
      (pss_cons (ps_set (i := 3) scTelling.nd rfl (.inl rfl) (pe_lst pa_nil))
      (pss_cons (ps_for PassesOwn.never rfl (pi_list (pv 1)) (pg_tup rfl (pgs_cons (pg_name (i := 4) scTelling.nd rfl (.inl rfl)) (pgs_cons (pg_name (i := 5) scTelling.nd rfl (.inl rfl)) pgs_nil)))
        (pss_cons (ps_set (i := 6) scTelling.nd rfl (.inl rfl) (pe_op op_mod (pv 4) (pe_callB call_len_seq (by rfl) T.len PySem.boot_len (pa_cons (pv 2) pa_nil))))
        (C8.pss_cut (ps_if (pt_cmpR op_ne (pv 5) (pe_ix ix_list (pv 2) (pv 6) (fun _ _ => rfl)) (nomark _))
          (pss_one (ps_expr (pe_bm PySem.F.plainAttrs_list PySem.F.slot_list_append PySem.F.type_list_append mt_append (pv 3) (pa_cons (pe_tup (pa_cons (pv 4) (pa_cons (pv 5) pa_nil))) pa_nil))))
          pss_nil)
        (pss_one (ps_asg (pv 5) (pg_sub (pv 2) (pv 6) set_list))))))
      (pss_one (ps_ret (pv 3))))), ?_⟩
    have tl := tp.len
    refine ⟨_, rfl, a, _, rfl, .inl ha, fun o ho => ?_⟩
    have s1 := same_new (o := .lst (bs.map V.int)) ho
    have ho1 := upd_same (H := H) (a := o) (o := .lst (bs.map V.int))
    generalize upd H o (.lst (bs.map V.int)) = H1 at s1 ho1 ⊢
    refine ⟨(by show 0 ≤ sizeLine; decide), fun q hq => ?_⟩
    have s2 := same_new (o := .lst []) hq
    have oq : o ≠ q := ne_of_none ho1 hq
    have hqH := s1.free hq
    refine ⟨_, rfl, c, rfl, ⟨_, (s1.trans s2).seq hc⟩, for_it (walk_list (K := K) (a := c) (xs := ts.map V.ref)) (fun i σ J => ∃ (y1 y2 y3 : Option V) (us : List Addr), σ = [some (.ref a), some (.ref c), some (.ref o), some (.ref q), y1, y2, y3] ∧ J o = some (.lst ((tell bs (cs.take i)).1.map V.int)) ∧ J q = some (.lst (us.map V.ref)) ∧
      Tups J us (tell bs (cs.take i)).2 ∧ (∀ t ∈ us, H t = none) ∧ us.length ≤ i ∧ Same H J) ⟨none, none, none, [], rfl, s2 _ _ ho1, upd_same, trivial, (fun t ht => nomatch ht), Nat.zero_le _, s1.trans s2⟩ (fun i σ J _ ⟨_, _, _, _, _, _, _, _, _, _, h⟩ => h.seq hc) ?_ ?_⟩
    · rintro i v σ J J' hi ⟨y1, y2, y3, us, rfl, jo, jq, ju, jf, jl, sJ⟩ ⟨rfl, hy⟩
      have hi' : i < ts.length := by simpa using hi
      rw [List.getElem?_map, List.getElem?_eq_getElem hi'] at hy
      obtain rfl := Option.some.inj hy
      obtain ⟨m, hm, hm2⟩ := (tp.same sJ).get (List.getElem?_eq_getElem hi')
      have et : cs.take (i + 1) = cs.take i ++ [m] := by rw [List.take_add_one, hm]; rfl
      have wl := tell_len bs (cs.take i)
      have tn := tell_snoc bs (cs.take i) m
      rw [← et] at tn
      generalize tell bs (cs.take i) = tw at jo ju wl tn
      have h0 := Int.emod_nonneg m.1 (show (bs.length : Int) ≠ 0 by omega)
      have h1 := Int.emod_lt_of_pos m.1 (show (0 : Int) < bs.length by omega)
      have hr1 : (m.1 % (bs.length : Int)).toNat < tw.1.length := by omega
      refine ⟨_, _, rfl, .inl (.inl hm2), rfl, _, _, rfl, _, [], rfl, rfl, ?_⟩
      have el : (((tw.1.map V.int).length : Nat) : Int) = bs.length := by rw [List.length_map, wl]
      refine ⟨_, rfl, _, rfl, o, _, rfl, .inl (SqL.of jo), _, _, rfl, rfl, (by rw [el]; omega), ?_⟩
      have ev : (fun i j : Int => V.int (i % j)) m.1 (((tw.1.map V.int).length : Nat) : Int) = V.int (((m.1 % (bs.length : Int)).toNat : Nat) : Int) := by
        show V.int _ = _
        rw [el, Int.toNat_of_nonneg h0]
      rw [ev]
      generalize hr : (m.1 % (bs.length : Int)).toNat = r at hr1
      have nm : tellStep bs.length tw m = (tw.1.set r m.2, if m.2 = tw.1.getD r 0 then tw.2 else tw.2 ++ [m]) := by
        unfold tellStep
        rw [hr]
      rw [nm] at tn
      have gd : tw.1.getD r 0 = tw.1[r] := by rw [List.getD_eq_getElem?_getD, List.getElem?_eq_getElem hr1]; rfl
      refine ⟨fun σ J2 => ∃ us : List Addr, σ = [some (.ref a), some (.ref c), some (.ref o), some (.ref q), some (.int m.1), some (.int m.2), some (.int (r : Nat))] ∧ J2 o = some (.lst (tw.1.map V.int)) ∧ J2 q = some (.lst (us.map V.ref)) ∧
        Tups J2 us (if m.2 = tw.1.getD r 0 then tw.2 else tw.2 ++ [m]) ∧ (∀ t ∈ us, H t = none) ∧ us.length ≤ i + 1 ∧ Same H J2, ?_, ?_⟩
      · refine ⟨_, rfl, _, rfl, _, rfl, o, _, _, _, rfl, rfl, SqL.of jo, atI_nat (j := r) (v := V.int tw.1[r]) (by rw [List.getElem?_map, List.getElem?_eq_getElem hr1]; rfl), rfl, _, rfl, ?_⟩
        have ei : decide (V.int m.2 = V.int tw.1[r]) = decide (m.2 = tw.1.getD r 0) := by
          rw [gd, decide_eq_decide]
          exact ⟨fun e => by injection e, fun e => by rw [e]⟩
        rw [ei]
        by_cases hc' : m.2 = tw.1.getD r 0
        · rw [decide_eq_true hc']
          refine ⟨us, rfl, jo, jq, ?_, jf, by omega, sJ⟩
          rw [if_pos hc']
          exact ju
        · rw [decide_eq_false hc']
          refine ⟨_, rfl, .inl ⟨rfl, _, SqL.of jq⟩, _, rfl, _, rfl, (by show 2 ≤ sizeLine; decide), fun e ne => ⟨q, _, _, rfl, rfl, by rw [upd_ne (ne_of_none jq ne)]; exact jq, by rw [List.length_map]; exact small1000 (by omega), us ++ [e], rfl, ?_, ?_, ?_, fun t ht => ?_, by rw [List.length_append]; show us.length + 1 ≤ i + 1; omega, fun b u hb => ?_⟩⟩
          · rw [upd_ne oq, upd_ne (ne_of_none jo ne)]
            exact jo
          · rw [upd_same, List.map_append]
            rfl
          · rw [if_neg hc']
            refine Tups.put (q := q) (ys := us.map V.ref) (Tups.snoc (ju.same (same_new ne)) upd_same) ?_
            rw [upd_ne (ne_of_none jq ne)]
            exact jq
          · rcases List.mem_append.mp ht with ht | ht
            · exact jf t ht
            · obtain rfl := List.mem_singleton.mp ht
              exact sJ.free ne
          · rw [upd_ne (ne_of_none hb hqH), upd_ne (ne_of_none (sJ _ _ hb) ne)]
            exact sJ _ _ hb
      · rintro σ J2 ⟨us2, rfl, ko, kq, ku, kf, kl, sK⟩
        refine ⟨_, rfl, _, rfl, _, rfl, o, _, (r : Nat), r, rfl, rfl, ko, ?_, ?_⟩
        · exact ixN_at (by rw [List.length_map]; exact hr1)
        have hob : ∀ {b u}, H b = some u → b ≠ o := fun {b u} hb => ne_of_none hb ho
        refine ⟨_, _, _, us2, rfl, ?_, ?_, ?_, kf, kl, fun b u hb => ?_⟩
        · rw [upd_same, tn, ← List.map_set]
        · rw [upd_ne oq.symm]
          exact kq
        · rw [tn]
          refine Tups.put (ys := tw.1.map V.int) ku ko
        · rw [upd_ne (hob hb)]
          exact sK _ _ hb
    · rintro σ J ⟨y1, y2, y3, us, rfl, jo, jq, ju, jf, jl, sJ⟩
      rw [List.length_map, tl, List.take_length] at ju
      exact ⟨_, rfl, k _ q us sJ hqH jf jq ju⟩
end

def spLanes (L : Addr) (K : PySem.W.Frag) : Sp := fun vs H Q _ => ∃ (a c : Addr) (bs : List Int) (ts : List Addr) (cs : List (Int × Int)), vs = [.ref a, .ref c] ∧ SqL K H a (bs.map V.int) ∧ SqL K H c (ts.map V.ref) ∧ Tups H ts cs ∧ 0 < bs.length ∧ bs.length ≤ 12 ∧ cs.length ≤ 900 ∧
  ∀ (H' : Hp) (q : Addr) (las : List Addr), Same H H' → H q = none → H' q = some (.lst (las.map V.ref)) → las.length = bs.length → (∀ l ∈ las, H l = none) → (∀ av o, H av = some o → LanesAt L av H' las bs cs) → Q (.ref q) H'
section
variable {P : Program} {w : World} {K : PySem.W.Frag} {mg : Str → Option Value} {base : Heap}
theorem ok_lanes {f L fI : Addr} {fd dI : FuncData} (F : Fun K "lanes_of" "lanes_of" sLanes f fd) (T : Blt mg) (ne : mg "enumerate" = none) (ZL : LaC K mg L) (ML : Mk K L fI) (GLI : FnOk P w K mg base CX0 1 fI dI ["self", "rest", "step", "offset", "changes"] (spLaneI L K)) (bLI : Binds K dI ["self", "rest", "step", "offset", "changes"] []) :
    FnOk P w K mg base CX0 3 f fd ["base", "changes"] (spLanes L K) := by
  refine F.ok scLanes (fun vs H Q E h => ?_) (fun cdv A outer s H vs Q E hr h => ?_)
  · obtain ⟨a, c, bs, ts, cs, rfl, _⟩ := h
    rfl
  · obtain ⟨a, c, bs, ts, cs, rfl, ha, hc, tp, l0, l1, l2, k⟩ := h
    refine ⟨_, pss_cons (ps_setLc (i := 2) (own := [("_", 5)]) (g := gName 5) (tt := tYes) rfl scLanes.nd rfl rfl (sw_true rfl rfl rfl (by decide +kernel)) (pi_list (pv 0))
          (blkOk_by (N := ["base", "changes", "shares", "moment", "offset", "_", "rest", "share"]) (sc := defScope sLanes) (by decide +kernel)) (fun _ _ _ _ _ => pg_name (i := 5) scLanes.nd rfl (.inl rfl)) (fun _ _ _ _ _ => pts_nil)
          (fun _ _ _ _ _ => (pe_lst pa_nil)))
      (pss_cons (ps_for PassesOwn.never rfl (pi_list (pv 1)) (pg_tup rfl (pgs_cons (pg_name (i := 3) scLanes.nd rfl (.inl rfl)) (pgs_cons (pg_name (i := 4) scLanes.nd rfl (.inl rfl)) pgs_nil)))
        (pss_one (ps_expr (pe_bm PySem.F.plainAttrs_list PySem.F.slot_list_append PySem.F.type_list_append mt_append (pe_ix ix_list (pv 2) (pe_op op_mod (pv 3) (pe_callB call_len_seq (by rfl) T.len PySem.boot_len (pa_cons (pv 0) pa_nil))) (fun _ _ => rfl)) (pa_cons (pe_tup (pa_cons (pv 3) (pa_cons (pv 4) pa_nil))) pa_nil)))))
      (pss_one (ps_ret (pe_lc (own := [("rest", 6), ("share", 7)]) (g := gTup K 2 (gCons (gName 6) (gCons (gName 7) gNil))) (tt := tYes) rfl scLanes.nd (pi_enum (by rfl) ne (pa_cons (pv 2) pa_nil))
          (blkOk_by (N := ["base", "changes", "shares", "moment", "offset", "_", "rest", "share"]) (sc := defScope sLanes) (by decide +kernel)) (fun _ _ _ _ _ => pg_tup rfl (pgs_cons (pg_name (i := 6) scLanes.nd rfl (.inl rfl)) (pgs_cons (pg_name (i := 7) scLanes.nd rfl (.inl rfl)) pgs_nil))) (fun _ _ _ _ _ => pts_nil)
          (fun _ _ _ _ _ => (pe_make ML GLI hr (by rfl) ZL.at_ bLI .nil pass0 (pa_cons (pv 6) (pa_cons (pe_callB (r := rLen K) call_len_seq (by rfl) T.len PySem.boot_len (pa_cons (pv 0) pa_nil)) (pa_cons (pe_ix (r := rIxL K) ix_list (pv 0) (pv 6) (fun _ _ => rfl)) (pa_cons (pv 7) pa_nil)))))))))), ?_⟩
    refine ⟨_, rfl, a, rfl, ⟨_, ha⟩, fun D hD => lc_list (K := K) (a := a) (xs := bs.map V.int) (fun i J => ∃ ss : List Addr, J D = some (.lst (ss.map V.ref)) ∧ ss.length = i ∧ (∀ t ∈ ss, J t = some (.lst []) ∧ t ≠ D ∧ H t = none) ∧ ss.Nodup ∧ Same H J) ⟨[], upd_same, rfl, (fun t ht => nomatch ht), .nil, same_new hD⟩
      (fun i J _ ⟨_, _, _, _, _, h⟩ => h.seq ha) ?_ ?_⟩
    · rintro i v J hi ⟨ss, hJ, hl, hs, nd, sJ⟩
      refine ⟨rfl, (by show 0 ≤ sizeLine; decide), fun e ne => ?_⟩
      have De : D ≠ e := ne_of_none hJ ne
      have hi2 : i < bs.length := by
        have := (List.getElem?_eq_some_iff.mp hi).1
        simpa using this
      refine ⟨_, by rw [upd_ne De]; exact hJ, by rw [List.length_map, hl]; exact small1000 (by omega), ss ++ [e], ?_, ?_, fun t ht => ?_, ?_, fun b o h => ?_⟩
      · rw [upd_same, List.map_append]
        rfl
      · rw [List.length_append, hl]
        rfl
      · rcases List.mem_append.mp ht with ht | ht
        · obtain ⟨h1, h2, h3⟩ := hs t ht
          refine ⟨?_, h2, h3⟩
          rw [upd_ne h2, upd_ne (ne_of_none h1 ne)]
          exact h1
        · obtain rfl := List.mem_singleton.mp ht
          refine ⟨?_, De.symm, sJ.free ne⟩
          rw [upd_ne De.symm]
          exact upd_same
      · refine List.nodup_append.mpr ⟨nd, by simp, fun x hx y hy e2 => ?_⟩
        obtain rfl := List.mem_singleton.mp hy
        exact ne_of_none (hs x hx).1 ne e2
      · rw [upd_ne (ne_of_none h hD), upd_ne (ne_of_none (sJ _ _ h) ne)]
        exact sJ _ _ h
    · rintro J ⟨ss, hJ, hl, hs, nd, sJ⟩
      rw [List.length_map] at hl
      have tl := tp.len
      refine ⟨_, rfl, c, rfl, ⟨_, sJ.seq hc⟩, for_it (walk_list (K := K) (a := c) (xs := ts.map V.ref)) (fun i σ J2 => ∃ (y3 y4 : Option V) (us : Nat → List Addr), σ = [some (.ref a), some (.ref c), some (.ref D), y3, y4, none, none, none] ∧ J2 D = some (.lst (ss.map V.ref)) ∧
        (∀ (j : Nat) (t : Addr), ss[j]? = some t → J2 t = some (.lst ((us j).map V.ref)) ∧ Tups J2 (us j) (share (cs.take i) bs.length j) ∧ (us j).length ≤ i) ∧ Same H J2) ⟨none, none, fun _ => [], rfl, hJ, (fun j t e => ⟨(hs t (List.mem_of_getElem? e)).1, trivial, Nat.zero_le _⟩), sJ⟩ (fun i σ J2 _ ⟨_, _, _, _, _, _, h⟩ => h.seq hc) ?_ ?_⟩
      · rintro i v σ J2 J' hi ⟨y3, y4, us, rfl, hJ2, hu, sK⟩ ⟨rfl, hy⟩
        have hi' : i < ts.length := by simpa using hi
        rw [List.getElem?_map, List.getElem?_eq_getElem hi'] at hy
        obtain rfl := Option.some.inj hy
        obtain ⟨m, hm, hm2⟩ := (tp.same sK).get (List.getElem?_eq_getElem hi')
        have et : cs.take (i + 1) = cs.take i ++ [m] := by rw [List.take_add_one, hm]; rfl
        have h0 := Int.emod_nonneg m.1 (show (bs.length : Int) ≠ 0 by omega)
        have h1 := Int.emod_lt_of_pos m.1 (show (0 : Int) < bs.length by omega)
        have hr1 : (m.1 % (bs.length : Int)).toNat < ss.length := by omega
        have ej : m.1 % (((bs.map V.int).length : Nat) : Int) = (((m.1 % (bs.length : Int)).toNat : Nat) : Int) := by
          rw [List.length_map]
          omega
        have er : ((m.1 % (bs.length : Int)).toNat : Int) = m.1 % (bs.length : Int) := Int.toNat_of_nonneg h0
        generalize hrr : (m.1 % (bs.length : Int)).toNat = r at hr1 ej er
        obtain ⟨hr2, hr3, hr4⟩ := hu r ss[r] (List.getElem?_eq_getElem hr1)
        refine ⟨_, _, rfl, .inl (.inl hm2), rfl, _, _, rfl, _, [], rfl, rfl, ?_⟩
        refine ⟨_, rfl, _, rfl, _, rfl, a, _, rfl, .inl (sK.seq ha), _, _, rfl, rfl, (by rw [List.length_map]; omega), D, _, _, _, rfl, rfl, SqL.of hJ2, at_of (j := r) (v := V.ref ss[r]) ej (by rw [List.getElem?_map, List.getElem?_eq_getElem hr1]; rfl),
          .inl ⟨rfl, _, SqL.of hr2⟩, _, rfl, _, rfl, (by show 2 ≤ sizeLine; decide), fun e ne => ⟨ss[r], _, _, rfl, rfl, by rw [upd_ne (ne_of_none hr2 ne)]; exact hr2, by rw [List.length_map]; exact small1000 (by omega), ?_⟩⟩
        have hsD : ss[r] ≠ D := (hs _ (List.getElem_mem hr1)).2.1
        have sE := same_new (o := .tup [.int m.1, .int m.2]) ne
        have hsE := sE _ _ hr2
        refine ⟨_, _, fun j => if j = r then us j ++ [e] else us j, rfl, ?_, fun j t ht => ?_, fun b u hb => ?_⟩
        · rw [upd_ne hsD.symm]
          exact sE _ _ hJ2
        · obtain ⟨k1, k2, k3⟩ := hu j t ht
          have sh : share (cs.take (i + 1)) bs.length j = share (cs.take i) bs.length j ++ if (r : Int) = j then [m] else [] := by
            rw [et]
            unfold share
            rw [List.filter_append]
            congr 1
            rw [List.filter_cons, List.filter_nil, ← er]
            by_cases q : (r : Int) = j
            · rw [if_pos q, if_pos (decide_eq_true q)]
            · rw [if_neg q, if_neg (by rw [decide_eq_false q]; decide)]
          rw [sh]
          by_cases q : j = r
          · subst q
            rw [List.getElem?_eq_getElem hr1] at ht
            obtain rfl := Option.some.inj ht
            have q1 : (fun k => if k = j then us k ++ [e] else us k) j = us j ++ [e] := if_pos rfl
            rw [if_pos rfl, q1]
            refine ⟨by rw [upd_same, List.map_append]; rfl, ?_, by rw [List.length_append]; show _ + 1 ≤ i + 1; omega⟩
            exact Tups.put (Tups.snoc (k2.same sE) upd_same) hsE
          · have tr : t ≠ ss[r] := fun z => by
              have hjl := (List.getElem?_eq_some_iff.mp ht).1
              have z2 : ss[j] = ss[r] := by
                have := (List.getElem?_eq_some_iff.mp ht).2
                rw [this, z]
              exact q ((List.getElem_inj nd).mp z2)
            have q1 : (fun k => if k = r then us k ++ [e] else us k) j = us j := if_neg q
            rw [q1, if_neg (fun z => q (by omega)), List.append_nil]
            refine ⟨by rw [upd_ne tr]; exact sE _ _ k1, Tups.put (k2.same sE) hsE, by omega⟩
        · have hn := (hs _ (List.getElem_mem hr1)).2.2
          rw [upd_ne (ne_of_none hb hn)]
          exact sE _ _ (sK _ _ hb)
      · rintro σ J2 ⟨y3, y4, us, rfl, hJ, hu, sJ⟩
        rw [List.length_map, tl, List.take_length] at hu
        refine ⟨_, rfl, D, _, rfl, SqL.of hJ, fun D2 hD2 => ?_⟩
        refine lc_it (walk_enum (K := K) (a := D) (xs := ss.map V.ref)) (fun i I => ∃ las : List Addr, I D2 = some (.lst (las.map V.ref)) ∧ las.length = i ∧ (∀ l ∈ las, H l = none) ∧ (∀ av, (av = D2 ∨ ∃ o, H av = some o) → ∀ (j : Nat) (a : Addr) (v : Int), las[j]? = some a → bs[j]? = some v → LaneAt L av I a j bs.length v (share cs bs.length j)) ∧ Same J2 I)
          ⟨[], upd_same, rfl, (fun t ht => nomatch ht), (fun av _ j a v e => by rw [List.getElem?_nil] at e; cases e), same_new hD2⟩ (fun i I _ ⟨_, _, _, _, _, h⟩ => SqL.of (h _ _ hJ)) ?_ ?_
        · rintro i v I I' hi ⟨las, hI, lI, fr, la, sI⟩ ⟨T', x1, x2, rfl, nT, rfl, e1, e2⟩
          obtain rfl := Option.some.inj e1
          have hi' : i < ss.length := by simpa using hi
          replace e2 : (List.map _ _)[i]? = some x2 := e2
          rw [List.getElem?_map, List.getElem?_eq_getElem hi'] at e2
          obtain rfl := Option.some.inj e2
          have sT := same_new (o := .tup [.int (i : Nat), .ref ss[i]]) nT
          have hb : i < bs.length := by omega
          have sIT := sI.trans sT
          have sA := (sJ.trans sIT)
          obtain ⟨hS0, tpS, lnS⟩ := hu i ss[i] (List.getElem?_eq_getElem hi')
          have hS := sIT _ _ hS0
          refine ⟨T', _, rfl, .inl (.inl upd_same), rfl, _, _, rfl, _, [], rfl, rfl, rfl, ?_⟩
          refine ⟨_, rfl, _, rfl, a, _, rfl, .inl (sA.seq ha), _, rfl, _, rfl, a, _, _, _, rfl, rfl, sA.seq ha, atI_nat (j := i) (v := V.int bs[i]) (by rw [List.getElem?_map, List.getElem?_eq_getElem hb]; rfl), _, rfl, fun x dx hx hd dn => ?_⟩
          have s1 := same_new (o := HO.own x) hd
          have hx1 : upd (upd I T' (.tup [.int (i : Nat), .ref ss[i]])) dx (.own x) x = none := by rw [upd_ne dn.symm]; exact hx
          have s2 := same_new (o := .ins L dx []) hx1
          have s012 := sIT.trans (s1.trans s2)
          have hxn := (sT.trans s1).trans s2
          refine ⟨x, dx, ss[i], _, _, _, us i, share cs bs.length i, rfl, upd_same, SqL.of ((s1.trans s2) _ _ hS), ne_of_none hS hx, tpS.same s012, by have := tpS.len; omega, fun H' lane keep => ⟨rfl, ?_⟩⟩
          · have D2x : D2 ≠ x := fun z => by rw [← z, sT _ _ hI] at hx; cases hx
            have nx : ∀ {b o}, I b = some o → b ≠ x := fun {b o} e z => by rw [← z, sT _ _ e] at hx; cases hx
            have kp : ∀ b o, I b = some o → H' b = some o := fun b o e => keep _ _ (hxn _ _ e) (nx e)
            have hI' := kp _ _ hI
            refine ⟨_, hI', by rw [List.length_map, lI]; exact small1000 (by omega), las ++ [x], ?_, ?_, fun l hl => ?_, fun av hav j a' v' ea eb => ?_, fun b o e => ?_⟩
            · rw [upd_same, List.map_append]
              rfl
            · rw [List.length_append, lI]
              rfl
            · rcases List.mem_append.mp hl with hl | hl
              · exact fr l hl
              · obtain rfl := List.mem_singleton.mp hl
                exact sA.free hx
            · have fD : Fr D2 H' (upd H' D2 (.lst (las.map V.ref ++ [.ref x]))) := Fr.at_
              have avx : av ≠ x := by
                rcases hav with rfl | ⟨o, ho⟩
                · exact D2x
                · exact nx (sI _ _ (sJ _ _ ho))
              have avs : ∃ o, upd (upd (upd I T' (.tup [.int (i : Nat), .ref ss[i]])) dx (.own x)) x (.ins L dx []) av = some o := by
                rcases hav with rfl | ⟨o, ho⟩
                · exact ⟨_, hxn _ _ hI⟩
                · exact ⟨_, hxn _ _ (sI _ _ (sJ _ _ ho))⟩
              obtain ⟨o2, ho2⟩ := avs
              have both : LaneAt L av H' a' j bs.length v' (share cs bs.length j) ∧ LaneAt L D2 H' a' j bs.length v' (share cs bs.length j) := by
                rcases Nat.lt_or_ge j las.length with hj | hj
                · rw [List.getElem?_append_left hj] at ea
                  have h1 := la av hav j a' v' ea eb
                  have h2 := la D2 (.inl rfl) j a' v' ea eb
                  exact ⟨h1.same kp, h2.same kp⟩
                · have hj2 : j = las.length := by
                    have := (List.getElem?_eq_some_iff.mp ea).1
                    rw [List.length_append] at this
                    simp at this
                    omega
                  subst hj2
                  rw [List.getElem?_append_right (Nat.le_refl _), Nat.sub_self] at ea
                  obtain rfl := Option.some.inj ea
                  rw [lI, List.getElem?_eq_getElem hb] at eb
                  obtain rfl := Option.some.inj eb
                  rw [lI]
                  have z1 := lane av _ ho2 avx
                  have z2 := lane D2 _ (hxn _ _ hI) D2x
                  rw [List.length_map] at z1 z2
                  exact ⟨z1, z2⟩
              obtain ⟨z1, z2⟩ := both
              exact z1.mix z2 fD
            · have := kp _ _ (sI _ _ e)
              rw [upd_ne (ne_of_none e hD2)]
              exact this
        · rintro I ⟨las, hI, lI, fr, la, sI⟩
          rw [List.length_map, hl] at lI
          exact k I D2 las (sJ.trans sI) (sJ.free hD2) hI lI fr fun av o ho i a v e1 e2 => la av (.inr ⟨o, ho⟩) i a v e1 e2
end

def spBesideG : Sp := fun vs H Q _ => ∃ (a : Addr) (cs : List Int) (n z : Int), vs = [.ref a, .int n, .int z] ∧ H a = some (.lst (cs.map V.int)) ∧ 0 ≤ n ∧ cs.length + n.toNat ≤ 400 ∧ (-(2 ^ 60) ≤ z ∧ z ≤ 2 ^ 60 ∧ n ≤ 12) ∧
  ∀ (H' : Hp) (q : Addr) (ks : List Int), Same H H' → H q = none → H' q = some (.lst (ks.map V.int)) → ks.length ≤ 800 → Q (.ref q) H'
/-- values rise from each moment to the next one -/
def RisesC (bs : List Int) (cs : List (Int × Int)) : Prop := ∀ t : Int, offAt bs cs t ≤ offAt bs cs (t + 1) + 1
def spAscend (K : PySem.W.Frag) : Sp := fun vs H Q _ => ∃ (c : Addr) (ts : List Addr) (cs : List (Int × Int)), vs = [.ref c] ∧ SqL K H c (ts.map V.ref) ∧ Tups H ts cs ∧ cs.length ≤ 900 ∧ (cs.Pairwise fun a b => a.1 < b.1) ∧ Q .non H
def spRising (R L : Addr) : Sp := fun vs H Q _ => ∃ (x av : Addr) (bs : List Int) (cs : List (Int × Int)), vs = [.ref x] ∧ RuAt R L av H x bs cs ∧ 0 < bs.length ∧ bs.length ≤ 12 ∧ cs.length ≤ 150 ∧ Asc cs ∧ RisesC bs cs ∧ ∀ H', Same H H' → Q .non H'
section
variable {P : Program} {w : World} {K : PySem.W.Frag} {mg : Str → Option Value} {base : Heap}
theorem ok_ascend {f fB : Addr} {fd dB : FuncData} (F : Fun K "check_ascending" "check_ascending" sAscend f fd) (T : Blt mg) (B : At P w K mg base 1 "is_behind" ["changes", "index"] (spBehind K) fB dB) : FnOk P w K mg base CX0 2 f fd ["changes"] (spAscend K) := by
  refine F.ok scAscend (fun vs H Q E h => ?_) (fun cdv A outer s H vs Q E hr h => ?_)
  · obtain ⟨c, ts, cs, rfl, _⟩ := h
    rfl
  · obtain ⟨c, ts, cs, rfl, hc, tp, l1, asc, q⟩ := h
    refine ⟨_, pss_one (ps_for PassesOwn.never rfl (pi_range1 (by rfl) T.range (pa_cons (pe_callB call_len_seq (by rfl) T.len PySem.boot_len (pa_cons (pv 0) pa_nil)) pa_nil)) (pg_name (i := 1) scAscend.nd rfl (.inl rfl))
        (pss_one (ps_if (pt_not (pt_val (pe_call B.ok hr (by rfl) B.at_ B.kp B.bi .nil pass0 (pa_cons (pv 0) (pa_cons (pv 1) pa_nil)))))
          (pss_one ps_never)
          pss_nil))), ?_⟩
    have tl := tp.len
    refine ⟨_, rfl, c, _, rfl, .inl hc, _, rfl, (by rw [List.length_map]; omega), (by rw [List.length_map]; omega), for_range (lo := 0) (fun i σ J => J = H ∧ ∃ y : Option V, σ = [some (.ref c), y]) ⟨rfl, _, rfl⟩ ?_ ?_⟩
    · rintro i σ J hi ⟨rfl, y, rfl⟩
      have hi' : i < cs.length := by
        rw [List.length_map, Int.toNat_natCast] at hi
        omega
      refine ⟨_, rfl, _, rfl, ⟨c, ts, cs, i, (by rw [Int.zero_add]; rfl), hc, tp, hi', ?_⟩⟩
      rw [behind_fit asc hi']
      exact ⟨_, rfl, rfl, _, rfl⟩
    · rintro σ J ⟨rfl, y, rfl⟩
      exact q
theorem scBeside : FnScope ["cuts", "week", "centre", "parted", "cut", "moment"] ["cuts", "week", "centre"] (defScope sBeside) := ⟨rfl, rfl, rfl, by decide +kernel, rfl, by decide +kernel, by decide +kernel⟩
theorem rgV_ints (a b : Int) : rgV a b = ((List.range (b - a).toNat).map fun i : Nat => a + (i : Int)).map V.int := by
  unfold rgV
  rw [List.map_map]
  rfl
theorem ok_besideG {f : Addr} {fd : FuncData} (F : FunD K "beside" "beside" (defArgs sBeside) (defBody sBeside) (defScope sBeside) [.int 0] [] f fd) (T : Blt mg) (T5 : Blt5 mg) : FnOk P w K mg base CX0 1 f fd ["cuts", "week", "centre"] spBesideG := by
  refine F.ok scBeside (fun vs H Q E h => ?_) (fun cdv A outer s H vs Q E hr h => ?_)
  · obtain ⟨a, cs, n, z, rfl, _⟩ := h
    rfl
  · obtain ⟨a, cs, n, z, rfl, ha, n0, le, zb, k⟩ := h
    suffices hh : ∃ t, PSs (cxOf CX0 P w K mg base ["cuts", "week", "centre", "parted", "cut", "moment"] "beside" (defScope sBeside) f cdv A outer s H E).nox (defBody sBeside) t ∧ t { nx := fun _ H' => Q .non H', rt := Q } (start ["cuts", "week", "centre", "parted", "cut", "moment"] [V.ref a, V.int n, V.int z]) H by
      obtain ⟨t, h1, h2⟩ := hh
      exact ⟨t, h1.nox, h2⟩
    refine ⟨_, pss_cons (ps_set (i := 3) scBeside.nd rfl (.inl rfl) (pe_op op_cat (pv 0) (pe_listRg rfl (by rfl) T.list (prg_2 (by rfl) T.range (pv 2) (pe_op op_add (pv 2) (pv 1))))))
      (pss_one (ps_ret (pe_callB (cr_sortedSetI rfl) (by rfl) T5.sorted (by decide +kernel) (pa_cons (pe_sc2 (own := [("cut", 4), ("moment", 5)]) (us := [5]) (g := gName 4) (gj := gName 5) (tt := tYes) (tj := tYes) (te := tVar 5) (wj := iTup K _) rfl scBeside.nd
        (pi_list (pv 3))
        (blkOk_by (N := ["cuts", "week", "centre", "parted", "cut", "moment"]) (sc := defScope sBeside) (by decide +kernel)) (by decide)
        (fun _ _ _ _ _ => pg_name (i := 4) scBeside.nd rfl (.inl rfl)) (fun _ _ _ _ _ => pts_nil)
        (fun _ _ _ _ _ => pi_tup (pe_tup (pa_cons (pv 4) (pa_cons (pe_op op_sub (pv 4) (pv 1)) pa_nil))))
        (fun _ _ _ _ _ => pg_name (i := 5) scBeside.nd rfl (.inl rfl)) (fun _ _ _ _ _ => pts_nil)
        (fun _ _ _ _ _ => pv 5)) pa_nil)))), ?_⟩
    refine ⟨_, rfl, _, rfl, _, rfl, _, rfl, _, _, rfl, rfl, _, _, rfl, rfl, ⟨by omega, by omega, by omega, by omega, by omega⟩, fun r hr1 => ?_⟩
    have s1 := same_new (o := .lst (rgV z (z + n))) hr1
    have hrl : (rgV z (z + n)).length = n.toNat := by rw [rgV_length]; omega
    refine ⟨a, r, _, _, rfl, rfl, s1 _ _ ha, upd_same, by rw [List.length_map, hrl, sizeLine_eq]; omega, fun G nG => ?_⟩
    have eG : cs.map V.int ++ rgV z (z + n) = (cs ++ ((List.range (z + n - z).toNat).map fun i : Nat => z + (i : Int))).map V.int := by rw [rgV_ints, List.map_append]
    rw [eG]
    have gl : (cs ++ ((List.range (z + n - z).toNat).map fun i : Nat => z + (i : Int))).length ≤ 400 := by
      rw [List.length_append, List.length_map, List.length_range]
      omega
    generalize cs ++ ((List.range (z + n - z).toNat).map fun i : Nat => z + (i : Int)) = gs at gl ⊢
    have s2 := same_new (o := .lst (gs.map V.int)) nG
    have hG := upd_same (H := upd H r (.lst (rgV z (z + n)))) (a := G) (o := .lst (gs.map V.int))
    have s12 := s1.trans s2
    generalize upd (upd H r (.lst (rgV z (z + n)))) G (.lst (gs.map V.int)) = H3 at hG s2 s12 ⊢
    refine ⟨_, rfl, G, rfl, ⟨_, SqL.of hG⟩, fun D hD => wk_lst (K := K) (a := G) (xs := gs.map V.int) (fun i J => ∃ (S : Int → Bool) (m : Nat), J D = some (SetO w D S m) ∧ m ≤ 2 * i ∧ Same H3 J)
      ⟨_, 0, upd_same, Nat.zero_le _, same_new hD⟩ (fun i J _ ⟨_, _, _, _, h⟩ => SqL.of (h _ _ hG)) ?_ ?_⟩
    · rintro i y J hi ⟨S, m, hJ, hm, sJ⟩
      have hi2 : i < gs.length := by
        have := (List.getElem?_eq_some_iff.mp hi).1
        simpa using this
      rw [List.getElem?_map, List.getElem?_eq_getElem hi2] at hi
      obtain rfl := Option.some.inj hi
      refine ⟨rfl, _, rfl, _, rfl, _, rfl, _, _, rfl, rfl, (by show 2 ≤ sizeLine; decide), fun q hq => ?_⟩
      have sq := same_new (o := .tup [.int gs[i], .int (gs[i] - n)]) hq
      have Dq : D ≠ q := ne_of_none hJ hq
      have hq2 := upd_same (H := J) (a := q) (o := .tup [.int gs[i], .int (gs[i] - n)])
      refine ⟨q, rfl, ⟨_, SqT.of hq2⟩, wk_tup (K := K) (a := q) (xs := [.int gs[i], .int (gs[i] - n)]) (fun j I => ∃ (S : Int → Bool) (m : Nat), I D = some (SetO w D S m) ∧ m ≤ 2 * i + j ∧ Fr D (upd J q (.tup [.int gs[i], .int (gs[i] - n)])) I)
        ⟨S, m, sq _ _ hJ, by omega, Fr.refl _ _⟩ (fun j I _ ⟨_, _, _, _, h⟩ => SqT.of (h _ _ hq2 Dq.symm)) ?_ ?_⟩
      · rintro j y I hj ⟨S2, m2, hI, hm2, fI⟩
        have hj2 := (List.getElem?_eq_some_iff.mp hj).1
        have hj3 : j < 2 := hj2
        have hv : ∃ v : Int, y = .int v := by
          match j, hj with
          | 0, e => exact ⟨_, (Option.some.inj e).symm⟩
          | 1, e => exact ⟨_, (Option.some.inj e).symm⟩
        obtain ⟨v, rfl⟩ := hv
        refine ⟨rfl, _, rfl, v, S2, m2, rfl, hI, (by show m2 + 1 < 4096; omega), _, _, upd_same, ?_, fI.trans Fr.at_⟩
        split <;> omega
      · rintro I ⟨S2, m2, hI, hm2, fI⟩
        have hm3 : m2 ≤ 2 * i + 2 := hm2
        exact ⟨S2, m2, hI, by omega, fun c o e => fI _ _ (sq _ _ (sJ _ _ e)) (ne_of_none e hD)⟩
    · rintro J ⟨S, m, hJ, hm, sJ⟩
      rw [List.length_map] at hm
      refine ⟨D, S, m, rfl, hJ, by omega, fun ks p asc mem len np => ?_⟩
      have s4 := same_new (o := .lst (ks.map V.int)) np
      exact k _ p ks ((s12.trans sJ).trans s4) ((s12.trans sJ).free np) upd_same (by omega)
theorem scRising : FnScope ["rule", "cuts", "falls", "moment", "cut"] ["rule"] (defScope sRising) := ⟨rfl, rfl, rfl, by decide +kernel, rfl, by decide +kernel, by decide +kernel⟩
theorem ok_rising {f R L fC fB fO p1 g1 : Addr} {fd dB dO d1 : FuncData} {dd : List Value} (F : Fun K "check_rising" "check_rising" sRising f fd) (Z : RuC K mg R) (Ch : AtR P w K mg base 3 "changed_moments" (spMoms (ThR R L)) fC)
    (Be : FnOk P w K mg base CX0 1 fB dB ["cuts", "week", "centre"] spBesideG) (mB : mg "beside" = some (.ref fB)) (kB : PySem.W.keepIn K (.ref fB) = true) (bB : Binds K dB ["cuts", "week", "centre"] dd) (rB : Vals [V.int 0] dd)
    (W1 : Pp P w K mg base R "week" (spRuWeek R L) p1 g1 d1) (hRO : Meth K R "offset" fO) (GRO : FnOk P w K mg base CX0 3 fO dO ["self", "moment"] (spRuOff R L)) (bRO : Binds K dO ["self", "moment"] []) :
    FnOk P w K mg base CX0 4 f fd ["rule"] (spRising R L) := by
  refine F.ok scRising (fun vs H Q E h => ?_) (fun cdv A outer s H vs Q E hr h => ?_)
  · obtain ⟨x, av, bs, cs, rfl, _⟩ := h
    rfl
  · obtain ⟨x, av, bs, cs, rfl, ru, l0, l1, l2, asc, rise, k⟩ := h
    have hr2 : Room 2 _ := hr.mono (by decide)
    have hr1 : Room 1 _ := hr.mono (by decide)
    refine ⟨_, pss_cons (ps_setLc2 (i := 1) (own := [("moment", 3), ("cut", 4)]) (vs1 := [4]) (g := gName 3) (g1 := gName 4) (tt := tYes) (tt1 := tYes) (wi1 := iTup K _) rfl scRising.nd rfl rfl (sw_true rfl rfl rfl (by decide +kernel)) (pi_list (pe_callR Ch.ok hr (by rfl) Ch.at_ Ch.kp pass0 (pa_cons (pv 0) pa_nil)))
          (blkOk_by (N := ["rule", "cuts", "falls", "moment", "cut"]) (sc := defScope sRising) (by decide +kernel)) (by decide) (fun _ _ _ _ _ => pg_name (i := 3) scRising.nd rfl (.inl rfl)) (fun _ _ _ _ _ => pts_nil)
          (fun _ _ _ _ _ => pi_tup (pe_tup (pa_cons (pe_op op_sub (pv 3) pe_int) (pa_cons (pv 3) pa_nil)))) (fun _ _ _ _ _ => pg_name (i := 4) scRising.nd rfl (.inl rfl)) (fun _ _ _ _ _ => pts_nil)
          (fun _ _ _ _ _ => (pv 4)))
      (pss_cons (ps_setLc (i := 2) (own := [("moment", 3)]) (g := gName 3) rfl scRising.nd rfl rfl (sw_true rfl rfl rfl (by decide +kernel)) (pi_list (pe_call Be hr1 (by rfl) mB kB bB rB pass0 (pa_cons (pv 1) (pa_cons (pe_prop (pv 0) Z.cl W1.of W1.ok hr2 W1.bi .nil pass0 rfl) pa_nil))))
          (blkOk_by (N := ["rule", "cuts", "falls", "moment", "cut"]) (sc := defScope sRising) (by decide +kernel)) (fun _ _ _ _ _ => pg_name (i := 3) scRising.nd rfl (.inl rfl)) (fun _ _ _ _ _ => pts_one ((pt_cmpR op_gt (pe_meth (pv 0) Z.cl hRO GRO hr bRO .nil pass0 (pa_cons (pv 3) pa_nil)) (pe_op op_add (pe_meth (pv 0) Z.cl hRO GRO hr bRO .nil pass0 (pa_cons (pe_op op_add (pv 3) pe_int) pa_nil)) pe_int) (nomark _))))
          (fun _ _ _ _ _ => (pv 3)))
      (pss_one (ps_if (pt_truth (pv 2) (fun _ => rfl))
        (pss_one ps_never)
        pss_nil))), ?_⟩
    refine ⟨_, rfl, [(x, cs)], rfl, (by show 1 ≤ 900; decide), fun z hz => ?_, (by show (allOf [(x, cs)]).length ≤ 900; simp [allOf]; omega), fun H1 q1 ks s1 nq1 _ mem len h1 => ?_⟩
    · obtain rfl := List.mem_singleton.mp hz
      exact ⟨av, bs, ru⟩
    have kl : ks.length ≤ 150 := by
      have : (allOf [(x, cs)]).length = cs.length := by simp [allOf]
      omega
    refine ⟨q1, rfl, ⟨_, SqL.of h1⟩, fun D hD => wk_lst (K := K) (a := q1) (xs := ks.map V.int) (fun i J => ∃ xs : List Int, J D = some (.lst (xs.map V.int)) ∧ xs.length = 2 * i ∧ Same H1 J) ⟨[], upd_same, rfl, same_new hD⟩ (fun i J _ ⟨_, _, _, h⟩ => SqL.of (h _ _ h1)) ?_ ?_⟩
    · rintro i y J hi ⟨xs, hJ, xl, sJ⟩
      have hi2 : i < ks.length := by
        have := (List.getElem?_eq_some_iff.mp hi).1
        simpa using this
      rw [List.getElem?_map, List.getElem?_eq_getElem hi2] at hi
      obtain rfl := Option.some.inj hi
      refine ⟨rfl, _, rfl, _, _, rfl, rfl, _, rfl, (by show 2 ≤ sizeLine; decide), fun q hq => ?_⟩
      have sq := same_new (o := .tup [.int (ks[i] - 1), .int ks[i]]) hq
      have Dq : D ≠ q := ne_of_none hJ hq
      have hq2 := upd_same (H := J) (a := q) (o := .tup [.int (ks[i] - 1), .int ks[i]])
      refine ⟨q, rfl, ⟨_, SqT.of hq2⟩, wk_tup (K := K) (a := q) (xs := [.int (ks[i] - 1), .int ks[i]]) (fun j I => ∃ xs : List Int, I D = some (.lst (xs.map V.int)) ∧ xs.length = 2 * i + j ∧ Fr D (upd J q (.tup [.int (ks[i] - 1), .int ks[i]])) I)
        ⟨xs, sq _ _ hJ, by omega, Fr.refl _ _⟩ (fun j I _ ⟨_, _, _, h⟩ => SqT.of (h _ _ hq2 Dq.symm)) ?_ ?_⟩
      · rintro j y I hj ⟨xs2, hI, xl2, fI⟩
        have hj3 : j < 2 := (List.getElem?_eq_some_iff.mp hj).1
        have hv : ∃ v : Int, y = .int v := by
          match j, hj with
          | 0, e => exact ⟨_, (Option.some.inj e).symm⟩
          | 1, e => exact ⟨_, (Option.some.inj e).symm⟩
        obtain ⟨v, rfl⟩ := hv
        refine ⟨rfl, _, rfl, _, hI, by rw [List.length_map]; exact small1000 (by omega), xs2 ++ [v], ?_, by rw [List.length_append, xl2]; rfl, fI.trans Fr.at_⟩
        rw [upd_same, List.map_append]
        rfl
      · rintro I ⟨xs2, hI, xl2, fI⟩
        have xl3 : xs2.length = 2 * i + 2 := xl2
        exact ⟨xs2, hI, by omega, fun c o e => fI _ _ (sq _ _ (sJ _ _ e)) (ne_of_none e hD)⟩
    rintro J ⟨xs, hJ, xl, sJ⟩
    rw [List.length_map] at xl
    have s12 := s1.trans sJ
    have hD2 := hJ
    have ru2 := ru.same s12
    obtain ⟨dx, b, c, l, _, _, hx, _⟩ := id ru2
    refine ⟨_, rfl, _, rfl, x, dx, _, rfl, hx, ⟨x, av, bs, cs, rfl, ru2, ⟨D, xs, _, 0, rfl, hD2, by omega, by omega, ⟨by decide, by decide, by omega⟩, fun H3 q3 ks s3 nq3 h3 lk => ?_⟩⟩⟩
    have s13 := s12.trans s3
    have ru3 := ru2.same s3
    have hx3 := s3 _ _ hx
    have nm := ruF_no b c l (x := "offset") (by decide +kernel) (by decide +kernel) (by decide +kernel)
    refine ⟨q3, rfl, ⟨_, SqL.of h3⟩, fun D2 hD2 => lc_list (K := K) (a := q3) (xs := ks.map V.int) (fun i J => J D2 = some (.lst []) ∧ Same H3 J) ⟨upd_same, same_new hD2⟩ (fun i J _ ⟨_, h⟩ => SqL.of (h _ _ h3)) ?_ ?_⟩
    · rintro i y J hi ⟨hJ, sJ⟩
      have hi2 : i < ks.length := by
        have := (List.getElem?_eq_some_iff.mp hi).1
        simpa using this
      rw [List.getElem?_map, List.getElem?_eq_getElem hi2] at hi
      obtain rfl := Option.some.inj hi
      have ruJ := ru3.same sJ
      have hxJ := sJ _ _ hx3
      refine ⟨rfl, _, rfl, x, dx, _, rfl, hxJ, nm, _, rfl, ⟨x, av, _, bs, cs, rfl, ruJ, l0, asc, ?_⟩⟩
      refine ⟨_, rfl, x, dx, _, rfl, hxJ, nm, _, rfl, _, _, rfl, rfl, ⟨x, av, _, bs, cs, rfl, ruJ, l0, asc, ?_⟩⟩
      refine ⟨_, _, rfl, rfl, _, _, rfl, rfl, false, ?_, hJ, sJ⟩
      have := rise ks[i]
      show V.bl _ = V.bl false
      rw [decide_eq_false (by omega)]
    · rintro J ⟨hJ, sJ⟩
      exact ⟨_, rfl, false, .inl ⟨[], SqL.of hJ, rfl⟩, ite2 (fun g => by cases g) (fun _ => k _ (s13.trans sJ))⟩
end

theorem tell_sub (bs : List Int) (cs : List (Int × Int)) : (tell bs cs).2.Sublist cs := by
  suffices h : ∀ (p : List Int × List (Int × Int)) (n : Int) (ds : List (Int × Int)), p.2.Sublist ds → (cs.foldl (tellStep n) p).2.Sublist (ds ++ cs) from by
    have := h (bs, []) bs.length [] (List.Sublist.refl _)
    simpa [tell] using this
  induction cs with
  | nil => intro p n ds h; simpa using h
  | cons c cs ih =>
    intro p n ds h
    rw [List.foldl_cons]
    have : (tellStep n p c).2.Sublist (ds ++ [c]) := by
      unfold tellStep
      show (if c.2 = p.1.getD (c.1 % n).toNat 0 then p.2 else p.2 ++ [c]).Sublist _
      split
      · exact h.trans (List.sublist_append_left _ _)
      · exact h.append (List.Sublist.refl _)
    have := ih _ n _ this
    simpa using this
theorem tell_asc {bs : List Int} {cs : List (Int × Int)} (h : cs.Pairwise fun a b => a.1 < b.1) : Asc (tell bs cs).2 := by
  refine List.pairwise_map.mpr ((h.sublist (tell_sub bs cs)).imp fun {a b} q => ?_)
  omega
def spRuI (R L : Addr) (K : PySem.W.Frag) : Sp := fun vs H Q _ => ∃ (x dx a c : Addr) (bs : List Int) (ts : List Addr) (cs : List (Int × Int)), vs = [.ref x, .ref a, .ref c] ∧ H x = some (.ins R dx []) ∧ H dx = some (.own x) ∧ dx ≠ x ∧ SqL K H a (bs.map V.int) ∧ SqL K H c (ts.map V.ref) ∧ Tups H ts cs ∧ a ≠ x ∧ c ≠ x ∧
  0 < bs.length ∧ bs.length ≤ 12 ∧ cs.length ≤ 150 ∧ (cs.Pairwise fun a b => a.1 < b.1) ∧ RisesC bs (tell bs cs).2 ∧
  ∀ H', (∀ av o, H av = some o → av ≠ x → RuAt R L av H' x bs (tell bs cs).2) → (∀ b o, H b = some o → b ≠ x → H' b = some o) → Q .non H'
section
variable {P : Program} {w : World} {K : PySem.W.Frag} {mg : Str → Option Value} {base : Heap}
theorem scRuI : FnScope ["self", "base", "changes"] ["self", "base", "changes"] (defScope sRuI) := ⟨rfl, rfl, rfl, by decide +kernel, rfl, by decide +kernel, by decide +kernel⟩
theorem ok_ruI {f R L fW fA fT fN fR : Addr} {fd dW dA dT dN dR : FuncData} (F : Fun K "__init__" "Rule.__init__" sRuI f fd) (Z : RuC K mg R) (T : Blt mg) (W : At P w K mg base 1 "check_week" ["number"] spChkW fW dW) (Ac : At P w K mg base 2 "check_ascending" ["changes"] (spAscend K) fA dA)
    (Te : At P w K mg base 1 "telling_changes" ["base", "changes"] (spTelling K) fT dT) (La : At P w K mg base 3 "lanes_of" ["base", "changes"] (spLanes L K) fN dN) (Ri : At P w K mg base 4 "check_rising" ["rule"] (spRising R L) fR dR) :
    FnOk P w K mg base CX0 5 f fd ["self", "base", "changes"] (spRuI R L K) := by
  refine F.ok scRuI (fun vs H Q E h => ?_) (fun cdv A outer s H vs Q E hr h => ?_)
  · obtain ⟨x, dx, a, c, bs, ts, cs, rfl, _⟩ := h
    rfl
  · obtain ⟨x, dx, a, c, bs, ts, cs, rfl, hx, hdx, dxx, ha, hc, tp, ax, cx, l0, l1, l2, asc, rise, k⟩ := h
    have tsub := tell_le bs cs
    have tasc := tell_asc (bs := bs) asc
    have hr1 : Room 1 _ := hr.mono (by decide)
    have hr2 : Room 2 _ := hr.mono (by decide)
    have hr3 : Room 3 _ := hr.mono (by decide)
    refine ⟨_, pss_cons (ps_expr (pe_call W.ok hr1 (by rfl) W.at_ W.kp W.bi .nil pass0 (pa_cons (pe_callB call_len_seq (by rfl) T.len PySem.boot_len (pa_cons (pv 1) pa_nil)) pa_nil)))
      (pss_cons (ps_expr (pe_call Ac.ok hr2 (by rfl) Ac.at_ Ac.kp Ac.bi .nil pass0 (pa_cons (pv 2) pa_nil)))
      (pss_cons (ps_fld (pv 0) (pe_callTy call_list_of (by rfl) T.list (by decide +kernel) (pa_cons (pv 1) pa_nil)) rfl)
      (pss_cons (ps_fld (pv 0) (pe_call Te.ok hr1 (by rfl) Te.at_ Te.kp Te.bi .nil pass0 (pa_cons (pv 1) (pa_cons (pv 2) pa_nil))) rfl)
      (pss_cons (ps_fld (pv 0) (pe_call La.ok hr3 (by rfl) La.at_ La.kp La.bi .nil pass0 (pa_cons (pe_fld (pv 0) rfl) (pa_cons (pe_fld (pv 0) rfl) pa_nil))) rfl)
      (pss_one (ps_expr (pe_call Ri.ok hr (by rfl) Ri.at_ Ri.kp Ri.bi .nil pass0 (pa_cons (pv 0) pa_nil)))))))), ?_⟩
    have el : (((bs.map V.int).length : Nat) : Int) = bs.length := by rw [List.length_map]
    refine ⟨_, rfl, a, _, rfl, .inl ha, ⟨_, rfl, by rw [el]; omega, by rw [el]; omega, ?_⟩⟩
    refine ⟨_, rfl, ⟨c, ts, cs, rfl, hc, tp, by omega, asc, ?_⟩⟩
    refine ⟨_, rfl, a, _, rfl, .inl ha, fun b hb => ?_⟩
    have s1 := same_new (o := .lst (bs.map V.int)) hb
    have bx : b ≠ x := fun z => by rw [z, hx] at hb; cases hb
    refine ⟨_, rfl, x, R, dx, _, rfl, s1 _ _ hx, Z.cl, Z.nb, (by show 0 < 1000; decide), ?_⟩
    have hb1 := upd_same (H := H) (a := b) (o := .lst (bs.map V.int))
    generalize upd H b (.lst (bs.map V.int)) = G1 at s1 hb1 ⊢
    generalize hH1 : upd G1 x (.ins R dx (putF "_base" (.ref b) [])) = H1
    have f1' : Fr x G1 H1 := by rw [← hH1]; exact Fr.at_
    have f1 : Fr x H H1 := (Fr.of s1).trans f1'
    have hx1 : H1 x = some (.ins R dx (putF "_base" (.ref b) [])) := by rw [← hH1]; exact upd_same
    have tp1 : Tups H1 ts cs := tp.imp fun t xs e => f1 _ _ e fun z => by rw [z, hx] at e; cases e
    refine ⟨_, rfl, _, rfl, ⟨a, c, bs, ts, cs, rfl, f1.seq ax ha, f1.seq cx hc, tp1, l0, by omega, by omega, fun G2 q us s2 nq uf hq tq => ?_⟩⟩
    generalize tell bs cs = told at rise k tsub tasc tq
    have qx : q ≠ x := fun z => by rw [z, hx1] at nq; cases nq
    refine ⟨_, rfl, x, R, dx, _, rfl, s2 _ _ hx1, Z.cl, Z.nc, (by show 1 < 1000; decide), ?_⟩
    generalize hH2 : upd G2 x (.ins R dx (putF "_changes" (.ref q) (putF "_base" (.ref b) []))) = H2
    have f2' : Fr x G2 H2 := by rw [← hH2]; exact Fr.at_
    have f2 : Fr x H H2 := (f1.trans (Fr.of s2)).trans f2'
    have hx2 : H2 x = some (.ins R dx (putF "_changes" (.ref q) (putF "_base" (.ref b) []))) := by rw [← hH2]; exact upd_same
    have hb2 := f2' _ _ (s2 _ _ (f1' _ _ hb1 bx)) bx
    have hq2 := f2' _ _ hq qx
    have tq2 : Tups H2 us told.2 := tq.imp fun t xs e => f2' _ _ e fun z => by rw [z, s2 _ _ hx1] at e; cases e
    refine ⟨_, rfl, x, R, dx, _, _, rfl, hx2, Z.cl, Z.nb, (by rw [lookup_putF, if_neg (by decide +kernel), lookup_putF, if_pos rfl]), _, rfl, x, R, dx, _, _, rfl, hx2, Z.cl, Z.nc, (by rw [lookup_putF, if_pos rfl]), ⟨b, q, bs, us, told.2, rfl, SqL.of hb2, SqL.of hq2, tq2, l0, l1, by omega, fun G3 l las s3 nl hl ll fr la => ?_⟩⟩
    have lx : l ≠ x := fun z => by rw [z, hx2] at nl; cases nl
    refine ⟨_, rfl, x, R, dx, _, rfl, s3 _ _ hx2, Z.cl, Z.nl, (by show 2 < 1000; decide), ?_⟩
    generalize hH3 : upd G3 x (.ins R dx (putF "_lanes" (.ref l) (putF "_changes" (.ref q) (putF "_base" (.ref b) [])))) = H3
    have f3' : Fr x G3 H3 := by rw [← hH3]; exact Fr.at_
    have f3 : Fr x H H3 := (f2.trans (Fr.of s3)).trans f3'
    have hx3 : H3 x = some (.ins R dx (ruF b q l)) := by rw [← hH3]; exact upd_same
    have hb3 := f3' _ _ (s3 _ _ hb2) bx
    have hq3 := f3' _ _ (s3 _ _ hq2) qx
    have hl3 := f3' _ _ hl lx
    have tq3 : Tups H3 us told.2 := (tq2.same s3).imp fun t xs e => f3' _ _ e fun z => by rw [z, s3 _ _ hx2] at e; cases e
    have ru : ∀ av, (∃ o, H av = some o) → av ≠ x → RuAt R L av H3 x bs told.2 := fun av ⟨o, ho⟩ nav => by
      refine ⟨dx, b, q, l, us, las, hx3, hb3, hq3, tq3, hl3, ll, fun i a v e1 e2 => ?_, fun z => nav z.symm, (fun z => ?_), (fun z => ?_), (fun z => ?_), fun t ht z => ?_⟩
      · exact (la av o (f2 _ _ ho nav) i a v e1 e2).mix (la x _ hx2 i a v e1 e2) f3'
      · rw [z, ho] at hb
        cases hb
      · rw [z, f1 _ _ ho nav] at nq
        cases nq
      · rw [z, f2 _ _ ho nav] at nl
        cases nl
      · have := uf t ht
        rw [z, f1 _ _ ho nav] at this
        cases this
    have ru0 := ru dx ⟨_, hdx⟩ dxx
    refine ⟨_, rfl, ⟨x, dx, bs, told.2, rfl, ru0, l0, l1, by omega, tasc, rise, fun H4 s4 => k H4 (fun av o ho nav => (ru av ⟨o, ho⟩ nav).same s4) fun c' o ho nc => s4 _ _ (f3 _ _ ho nc)⟩⟩
end

/-! ### data whose repr is short -/
structure Rp (d : PyData) (n k : Nat) : Prop where
  lv : d.leavesShort 42 = true
  sh : d.showable = true
  nd : d.hasDict = false
  dp : d.depth ≤ k
  bk : d.bulk ≤ n
structure RpA (xs : List PyData) (n k : Nat) : Prop where
  lv : PyData.leavesShortAll 42 xs = true
  sh : PyData.showableAll xs = true
  nd : PyData.hasDictAll xs = false
  dp : PyData.depthAll xs ≤ k
  bk : PyData.bulkAll xs ≤ n
theorem Rp.int {i : Int} (h0 : -10 ^ 40 < i) (h1 : i < 10 ^ 40) : Rp (.int i) 0 0 := by
  have h : i.natAbs < 10 ^ 40 := by omega
  refine ⟨?_, ?_, rfl, Nat.le_refl _, Nat.le_refl _⟩
  · refine decide_eq_true ?_
    have e := int_text_length_le10 (k := 40) (by decide) h
    show (Str.ofString (toString i)).length ≤ 42
    rw [PySem.ofString_length]
    omega
  · refine decide_eq_true ?_
    by_cases z : i.natAbs = 0
    · rw [z]
      decide
    · have : i.natAbs < 2 ^ 1920 := Nat.lt_trans h (by decide)
      exact (Nat.log2_lt z).mpr this
theorem Rp.bool (b : Bool) : Rp (.bool b) 0 0 := ⟨rfl, rfl, rfl, Nat.le_refl _, Nat.le_refl _⟩
theorem Rp.none : Rp .none 0 0 := ⟨rfl, rfl, rfl, Nat.le_refl _, Nat.le_refl _⟩
theorem Rp.mono {d : PyData} {n k n' k' : Nat} (h : Rp d n k) (g1 : n ≤ n') (g2 : k ≤ k') : Rp d n' k' := ⟨h.lv, h.sh, h.nd, Nat.le_trans h.dp g2, Nat.le_trans h.bk g1⟩
theorem RpA.mono {d : List PyData} {n k n' k' : Nat} (h : RpA d n k) (g1 : n ≤ n') (g2 : k ≤ k') : RpA d n' k' := ⟨h.lv, h.sh, h.nd, Nat.le_trans h.dp g2, Nat.le_trans h.bk g1⟩
theorem Rp.list {xs : List PyData} {n k : Nat} (h : RpA xs n k) : Rp (.list xs) n (k + 1) :=
  ⟨by simp only [PyData.leavesShort, h.lv], by simp only [PyData.showable, h.sh], by simp only [PyData.hasDict, h.nd], by simp only [PyData.depth]; have := h.dp; omega, by simp only [PyData.bulk]; exact h.bk⟩
theorem Rp.tup {xs : List PyData} {n k : Nat} (h : RpA xs n k) : Rp (.tuple xs) n (k + 1) :=
  ⟨by simp only [PyData.leavesShort, h.lv], by simp only [PyData.showable, h.sh], by simp only [PyData.hasDict, h.nd], by simp only [PyData.depth]; have := h.dp; omega, by simp only [PyData.bulk]; exact h.bk⟩
theorem RpA.nil : RpA [] 0 0 := ⟨rfl, rfl, rfl, Nat.le_refl _, Nat.le_refl _⟩
theorem RpA.cons {d : PyData} {xs : List PyData} {n k m j : Nat} (h : Rp d n k) (g : RpA xs m j) : RpA (d :: xs) (n + 1 + m) (k + j) :=
  ⟨by simp only [PyData.leavesShortAll, h.lv, g.lv, Bool.and_self], by simp only [PyData.showableAll, h.sh, g.sh, Bool.and_self], by simp only [PyData.hasDictAll, h.nd, g.nd, Bool.or_self],
    by simp only [PyData.depthAll]; have := h.dp; have := g.dp; omega, by simp only [PyData.bulkAll]; have := h.bk; have := g.bk; omega⟩
theorem RpA.all {n k : Nat} : ∀ {xs : List PyData}, (∀ d ∈ xs, Rp d n k) → RpA xs (xs.length * (n + 1)) k
  | [], _ => RpA.nil.mono (Nat.zero_le _) (Nat.zero_le _)
  | d :: xs, h => by
    have h1 := h d List.mem_cons_self
    have h2 := RpA.all (xs := xs) fun e he => h e (List.mem_cons_of_mem _ he)
    refine ⟨by simp only [PyData.leavesShortAll, h1.lv, h2.lv, Bool.and_self], by simp only [PyData.showableAll, h1.sh, h2.sh, Bool.and_self], by simp only [PyData.hasDictAll, h1.nd, h2.nd, Bool.or_self], ?_, ?_⟩
    · simp only [PyData.depthAll]
      have := h1.dp
      have := h2.dp
      omega
    · simp only [PyData.bulkAll]
      have := h1.bk
      have := h2.bk
      rw [List.length_cons, Nat.add_mul]
      omega
theorem Rp.fits {d : PyData} {n k : Nat} (h : Rp d n k) (g : n ≤ 300000) : d.shown.length ≤ sizeLine := by
  have e := PyData.shown_le_bulk 42 (by decide) d h.lv
  have := h.bk
  rw [sizeLine_eq]
  omega
def rRep2 (K : PySem.W.Frag) : List V → Hp → VK → Prop := fun xs H Q => ∃ (a : Addr) (d : PyData) (n k : Nat), xs = [.ref a] ∧ Dp K H (.ref a) d ∧ Rp d n k ∧ k ≤ 60 ∧ n ≤ 300000 ∧ Q (.str d.shown) H
theorem call_rep2 {X : Cx} (hgd : X.A.guards = some []) (hu : X.A.units + 64 < cLine) : CallR X (.builtin "repr") (rRep2 X.K) := by
  intro pins s σ H xs us Q I r h
  obtain ⟨a, d, n, k, e, hd, hr, hk, hn, q⟩ := h
  exact call_repr hgd hu pins s σ H xs us Q I r ⟨a, d, e, hd, hr.sh, hr.nd, Nat.le_trans hr.dp hk, hr.fits hn, q⟩
/-! ### which data stand where -/
def dInts (xs : List Int) : PyData := .list (xs.map PyData.int)
def dMarks (ms : List (Int × Int)) : PyData := .list (ms.map fun m => PyData.tuple [.int m.1, .int m.2])
theorem dpAll_ints {K : PySem.W.Frag} {H : Hp} : ∀ xs : List Int, DpAll K H (xs.map V.int) (xs.map PyData.int)
  | [] => .nil
  | x :: xs => .cons (.int x) (dpAll_ints xs)
theorem dp_ints {K : PySem.W.Frag} {H : Hp} {a : Addr} {xs : List Int} (h : SqL K H a (xs.map V.int)) : Dp K H (.ref a) (dInts xs) := .lst h (dpAll_ints xs)
theorem dpAll_marks {K : PySem.W.Frag} {H : Hp} : ∀ {ts : List Addr} {ms : List (Int × Int)}, Tups H ts ms → DpAll K H (ts.map V.ref) (ms.map fun m => PyData.tuple [.int m.1, .int m.2])
  | [], [], _ => .nil
  | _ :: _, m :: _, h => .cons (.tup (SqT.of h.1) (.cons (.int m.1) (.cons (.int m.2) .nil))) (dpAll_marks h.2)
theorem dp_marks {K : PySem.W.Frag} {H : Hp} {a : Addr} {ts : List Addr} {ms : List (Int × Int)} (h : SqL K H a (ts.map V.ref)) (g : Tups H ts ms) : Dp K H (.ref a) (dMarks ms) := .lst h (dpAll_marks g)
theorem rp_ints {xs : List Int} (h : ∀ v ∈ xs, -10 ^ 40 < v ∧ v < 10 ^ 40) : Rp (dInts xs) xs.length 1 := by
  have := RpA.all (xs := xs.map PyData.int) (n := 0) (k := 0) fun d hd => by
    obtain ⟨v, hv, rfl⟩ := List.mem_map.mp hd
    exact Rp.int (h v hv).1 (h v hv).2
  refine (Rp.list this).mono ?_ (Nat.le_refl _)
  rw [List.length_map]
  omega
theorem rp_marks {ms : List (Int × Int)} (h : ∀ m ∈ ms, -10 ^ 40 < m.1 ∧ m.1 < 10 ^ 40 ∧ -10 ^ 40 < m.2 ∧ m.2 < 10 ^ 40) : Rp (dMarks ms) (ms.length * 3) 2 := by
  have := RpA.all (xs := ms.map fun m => PyData.tuple [.int m.1, .int m.2]) (n := 2) (k := 1) fun d hd => by
    obtain ⟨m, hm, rfl⟩ := List.mem_map.mp hd
    have g := h m hm
    exact (Rp.tup (.cons (Rp.int g.1 g.2.1) (.cons (Rp.int g.2.2.1 g.2.2.2) .nil))).mono (by omega) (by omega)
  refine (Rp.list this).mono ?_ (Nat.le_refl _)
  rw [List.length_map]
  omega

/-! ### the pool of a law -/
def spTake : Sp := fun vs H Q _ => ∃ (p : Addr) (n : Nat) (m : Int), vs = [.ref p, .int m] ∧ Well H p n ∧ n ≤ 10 ^ 9 ∧ 0 < m ∧ m < 2 ^ 200 ∧
  ∀ (r : Int) (H' : Hp), 0 ≤ r → r < m → Fr p H H' → Well H' p (n + 1) → Q (.int r) H'
theorem spTake_ok {p : Addr} {n : Nat} {m : Int} {H : Hp} {Q : VK} {E : XK} (h : Well H p n) (hn : n ≤ 10 ^ 9) (h0 : 0 < m) (h1 : m < 2 ^ 200)
    (q : ∀ (r : Int) (H' : Hp), 0 ≤ r → r < m → Fr p H H' → Well H' p (n + 1) → Q (.int r) H') : spTake [.ref p, .int m] H Q E := ⟨p, n, m, rfl, h, hn, h0, h1, q⟩
def spPool (K : PySem.W.Frag) : Sp := fun vs H Q _ => ∃ (a : Addr) (ns : List Int) (i : Int), vs = [.ref a, .int i] ∧ SqL K H a (ns.map V.int) ∧ ns.length ≤ 63 ∧ 0 ≤ i ∧ i ≤ 63 ∧
  ∀ (p : Addr) (H' : Hp), H p = none → Same H H' → Well H' p 0 → Q (.ref p) H'
def gKw {α : Type} (z : α) : List α → List α → List α := fun us ws => [us.getD 0 z, ws.getD 1 z, ws.getD 0 z]
theorem kb_ru {K : PySem.W.Frag} {f : Addr} {fd : FuncData} (F : Fun K "__init__" "Rule.__init__" sRuI f fd) : KBn K fd ["self", "base", "changes"] 1 ["changes", "base"] (gKw Value.none) (gKw V.non) := by
  obtain ⟨oc, od, kV, doc, pm, an, cdv, ct, osl, rfl, lk, hcd⟩ := F.ex
  refine ⟨fun s us ws _ l1 l2 => ?_, fun {vs us zs ws} r1 r2 => ?_⟩
  · match us, l1, ws, l2 with
    | [u], _, [c, p], _ => exact .of_eq rfl
  · have get : ∀ {vs : List V} {us : List Value} (i : Nat), Vals vs us → RelV (vs.getD i V.non) (us.getD i Value.none) := by
      intro vs us i r
      induction r generalizing i with
      | nil => cases i <;> exact (rfl : RelV V.non Value.none)
      | cons a _ ih =>
        cases i with
        | zero => exact a
        | succ i => exact ih i
    exact .cons (get 0 r1) (.cons (get 1 r2) (.cons (get 0 r2) .nil))
def spRisingL : Sp := fun vs H Q _ => ∃ (p : Addr) (n : Nat) (z : Int), vs = [.ref p, .int z] ∧ Well H p n ∧ n ≤ 10 ^ 8 ∧ 1 ≤ z ∧ z ≤ 12 ∧
  ∀ (q : Addr) (xs : List Int) (H' : Hp), xs.Pairwise (· ≤ ·) → (xs.length : Int) = z → (∀ v ∈ xs, 0 ≤ v ∧ v ≤ z) → H q = none → q ≠ p → H' q = some (.lst (xs.map V.int)) → Fr p H H' → Well H' p (n + 12) → Q (.ref q) H'
def shapeD (bs : List Int) (cs : List (Int × Int)) : PyData := .list [.int (bs.length : Nat), dInts bs, dMarks cs]
def spShape (R L : Addr) : Sp := fun vs H Q _ => ∃ (x av : Addr) (bs : List Int) (cs : List (Int × Int)), vs = [.ref x] ∧ RuAt R L av H x bs cs ∧ bs.length ≤ 12 ∧ cs.length ≤ 60 ∧ (∀ v ∈ bs, -10 ^ 40 < v ∧ v < 10 ^ 40) ∧ (∀ m ∈ cs, -10 ^ 40 < m.1 ∧ m.1 < 10 ^ 40 ∧ -10 ^ 40 < m.2 ∧ m.2 < 10 ^ 40) ∧
  ∀ H', Same H H' → Q (.str (shapeD bs cs).shown) H'
theorem rp_shape {bs : List Int} {cs : List (Int × Int)} (h1 : bs.length ≤ 12) (h2 : cs.length ≤ 60) (h3 : ∀ v ∈ bs, -10 ^ 40 < v ∧ v < 10 ^ 40) (h4 : ∀ m ∈ cs, -10 ^ 40 < m.1 ∧ m.1 < 10 ^ 40 ∧ -10 ^ 40 < m.2 ∧ m.2 < 10 ^ 40) : Rp (shapeD bs cs) 300 10 := by
  have a := (Rp.int (i := (bs.length : Nat)) (by omega) (by omega))
  have b := rp_ints h3
  have c := rp_marks h4
  exact (Rp.list (.cons a (.cons b (.cons c .nil)))).mono (by omega) (by omega)
/-! ### ** of great ints -/
def CPowW (i j : Int) : Prop := 0 ≤ j ∧ (Builtin.Int.intBits i : Int) * j ≤ 2 ^ 27
theorem op_powW {X : Cx} : OpR X (binaryOp .Pow) (rI CPowW fun i j => .int (i ^ j.toNat)) := opI fun _ _ _ _ _ _ _ hc q => pow_int hc.1 hc.2 q
theorem wide_pow {i j : Int} {b : Nat} (h0 : 0 ≤ j) (hj : j ≤ 100) (hi : i.natAbs < 2 ^ b) (b0 : 0 < b) (hb : b ≤ 1000) : CPowW i j := by
  have l := PySem.Flt.log2_lt_of b0 hi
  have e : Builtin.Int.intBits i ≤ 1000 := by
    unfold Builtin.Int.intBits
    split <;> omega
  have m : (Builtin.Int.intBits i : Int) * j ≤ 1000 * 100 := Int.mul_le_mul (by omega) hj h0 (by omega)
  exact ⟨h0, Int.le_trans m (by decide)⟩
section
variable {P : Program} {w : World} {K : PySem.W.Frag} {mg : Str → Option Value} {base : Heap}
theorem scPool : FnScope ["script", "spot", "cell"] ["script", "spot"] (defScope sPool) := ⟨rfl, rfl, rfl, by decide +kernel, rfl, by decide +kernel, by decide +kernel⟩
theorem ok_pool {f : Addr} {fd : FuncData} (F : Fun K "_law_pool" "_law_pool" sPool f fd) (T : Blt mg) : FnOk P w K mg base CX0 1 f fd ["script", "spot"] (spPool K) := by
  refine F.ok scPool (fun vs H Q E h => ?_) (fun cdv A outer s H vs Q E hr h => ?_)
  · obtain ⟨a, ns, i, rfl, _⟩ := h
    rfl
  · obtain ⟨a, ns, i, rfl, hS, hl, i0, i1, k⟩ := h
    refine ⟨_, pss_cons (ps_set (i := 2) scPool.nd rfl (.inl rfl) pe_int)
      (C8.pss_cut (ps_if (pt_cmpR op_lt (pv 1) (pe_callB call_len_seq (by rfl) T.len PySem.boot_len (pa_cons (pv 0) pa_nil)) (nomark _))
        (pss_one (ps_set (i := 2) scPool.nd rfl (.inl rfl) (pe_ix ix_list (pv 0) (pv 1) (fun _ _ => rfl))))
        pss_nil)
      (pss_one (ps_ret (pe_lst (pa_cons (pe_callB (call_max2 rfl) (by rfl) T.max (by decide +kernel) (pa_cons pe_int (pa_cons (pe_op op_sub (pe_callB call_abs (by rfl) T.abs (by decide +kernel) (pa_cons (pv 2) pa_nil)) (pe_op op_pow pe_int pe_int)) pa_nil))) (pa_cons (pe_op op_add (pe_op op_mod (pe_callTy call_int1 (by rfl) T.int (by decide +kernel) (pa_cons (pv 2) pa_nil)) pe_int) (pe_op op_mul pe_int (pe_op op_add (pv 1) pe_int))) (pa_cons pe_int pa_nil))))))), ?_⟩
    refine ⟨fun σ H1 => H1 = H ∧ ∃ z : Int, σ = [some (.ref a), some (.int i), some (.int z)], ?_, ?_⟩
    · refine ⟨_, rfl, _, rfl, a, _, rfl, .inl hS, _, _, rfl, rfl, _, rfl, ite2 (fun hc => ?_) (fun hc => ?_)⟩
      · have hi : i < ns.length := by
          have := of_decide_eq_true hc
          rw [List.length_map] at this
          exact this
        obtain ⟨v, hv, hv2, e⟩ := atI_ints i0 hi
        exact ⟨_, rfl, _, rfl, a, _, i, _, rfl, rfl, hS, e, rfl, v, rfl⟩
      · exact ⟨rfl, 0, rfl⟩
    · rintro σ H1 ⟨rfl, z, rfl⟩
      refine ⟨_, rfl, _, rfl, _, _, rfl, rfl, ⟨by decide, by decide, by decide⟩, _, _, rfl, rfl, 0, _, rfl, ?_⟩
      refine ⟨_, rfl, .inl ⟨_, rfl, _, _, rfl, rfl, (by show (0 : Int) < 2305843009213693951; decide), ?_⟩⟩
      generalize hx : z % 2305843009213693951 = x
      have x0 : 0 ≤ x := by rw [← hx]; exact Int.emod_nonneg _ (by decide)
      have x1 : x < 2305843009213693951 := by rw [← hx]; exact Int.emod_lt_of_pos _ (by decide)
      refine ⟨_, rfl, _, _, rfl, rfl, _, _, rfl, rfl, .inl ⟨by decide, by decide⟩, _, _, rfl, rfl, (by show 3 ≤ sizeLine; decide), fun p hp => ?_⟩
      exact k p _ hp (same_new hp) ⟨_, _, _, upd_same, by omega, by omega, by decide, by decide⟩
theorem scDraw : FnScope ["pool", "span", "drawn", "mixed"] ["pool", "span"] (defScope sDraw) := ⟨rfl, rfl, rfl, by decide +kernel, rfl, by decide +kernel, by decide +kernel⟩
theorem ok_draw {f : Addr} {fd : FuncData} (F : Fun K "_law_draw" "_law_draw" sDraw f fd) (T : Blt mg) : FnOk P w K mg base CX0 1 f fd ["pool", "span"] spTake := by
  refine F.ok scDraw (fun vs H Q E h => ?_) (fun cdv A outer s H vs Q E hr h => ?_)
  · obtain ⟨p, n, m, rfl, _⟩ := h
    rfl
  · obtain ⟨p, n, m, rfl, ⟨a, b, c, hp, b0, b1, c0, c1⟩, hn, m0, m1, k⟩ := h
    refine ⟨_, pss_cons (ps_if (pt_cmpR op_gt (pe_ix ix_list (pv 0) pe_int (fun _ _ => rfl)) pe_int (nomark _))
        (pss_cons (ps_set (i := 2) scDraw.nd rfl (.inl rfl) (pe_op op_mod (pe_callTy call_int1 (by rfl) T.int (by decide +kernel) (pa_cons (pe_ix ix_list (pv 0) pe_int (fun _ _ => rfl)) pa_nil)) (pv 1)))
        (pss_cons (ps_asg (pe_op op_fdivW (pe_ix ix_list (pv 0) pe_int (fun _ _ => rfl)) (pv 1)) (pg_sub (pv 0) pe_int set_list))
        (pss_one (ps_ret (pv 2)))))
        pss_nil)
      (pss_cons (ps_asg (pe_op op_add (pe_ix ix_list (pv 0) pe_int (fun _ _ => rfl)) pe_int) (pg_sub (pv 0) pe_int set_list))
      (pss_cons (ps_set (i := 3) scDraw.nd rfl (.inl rfl) (pe_op op_mod (pe_callTy call_int1 (by rfl) T.int (by decide +kernel) (pa_cons (pe_op op_pow (pe_op op_add (pe_ix ix_list (pv 0) pe_int (fun _ _ => rfl)) (pe_op op_mul pe_int (pe_ix ix_list (pv 0) pe_int (fun _ _ => rfl)))) pe_int) pa_nil)) pe_int))
      (pss_cons (ps_set (i := 3) scDraw.nd rfl (.inl rfl) (pe_op op_mod (pe_callTy call_int1 (by rfl) T.int (by decide +kernel) (pa_cons (pe_op op_powW (pe_op op_add (pv 3) (pe_op op_mul pe_int (pe_ix ix_list (pv 0) pe_int (fun _ _ => rfl)))) pe_int) pa_nil)) pe_int))
      (pss_one (ps_ret (pe_op op_mod (pe_callTy call_int1 (by rfl) T.int (by decide +kernel) (pa_cons (pe_op op_fdiv (pv 3) pe_int) pa_nil)) (pv 1))))))), ?_⟩
    refine ⟨_, rfl, p, _, 0, _, rfl, rfl, SqL.of hp, atI_nat (j := 0) rfl, _, _, rfl, rfl, _, rfl, ite2 (fun hw => ?_) (fun hw => ?_)⟩
    · refine ⟨_, rfl, p, _, 0, _, rfl, rfl, SqL.of hp, atI_nat (j := 0) rfl, .inl ⟨_, rfl, _, rfl, a, m, rfl, rfl, m0, ?_⟩⟩
      refine ⟨_, rfl, p, _, 0, _, rfl, rfl, SqL.of hp, atI_nat (j := 0) rfl, _, rfl, a, m, rfl, rfl, wide_div (b := 200) m0 (by omega) (by decide) (by decide), ?_⟩
      refine ⟨_, rfl, p, _, 0, 0, rfl, rfl, hp, rfl, ?_⟩
      refine ⟨_, rfl, k _ _ (Int.emod_nonneg _ (by omega)) (Int.emod_lt_of_pos _ m0) Fr.at_ ⟨a / m, b, c, upd_same, b0, b1, c0, by omega⟩⟩
    · refine ⟨_, rfl, p, _, 2, _, rfl, rfl, SqL.of hp, atI_nat (j := 2) rfl, _, _, rfl, rfl, ?_⟩
      refine ⟨_, rfl, p, _, 2, 2, rfl, rfl, hp, rfl, ?_⟩
      rw [set2]
      generalize hH : upd H p (.lst [.int a, .int b, .int (c + 1)]) = H1
      have h1 : H1 p = some (.lst [.int a, .int b, .int (c + 1)]) := by rw [← hH]; exact upd_same
      have e1 : (0 : Int) ≤ 15485863 * (c + 1) := by omega
      refine ⟨_, rfl, p, _, 1, _, rfl, rfl, SqL.of h1, atI_nat (j := 1) rfl, _, rfl, p, _, 2, _, rfl, rfl, SqL.of h1, atI_nat (j := 2) rfl, _, _, rfl, rfl, .inl ⟨by decide, by decide⟩, _, _, rfl, rfl, _, _, rfl, rfl, ⟨by decide, by decide, by omega⟩, ?_⟩
      refine .inl ⟨_, rfl, _, _, rfl, rfl, (by show (0 : Int) < 162259276829213363391578010288127; decide), ?_⟩
      generalize hx : (b + 15485863 * (c + 1)) ^ (3 : Int).toNat % 162259276829213363391578010288127 = x
      have x0 : 0 ≤ x := by rw [← hx]; exact Int.emod_nonneg _ (by decide)
      have x1 : x < 162259276829213363391578010288127 := by rw [← hx]; exact Int.emod_lt_of_pos _ (by decide)
      refine ⟨_, rfl, _, rfl, p, _, 2, _, rfl, rfl, SqL.of h1, atI_nat (j := 2) rfl, _, _, rfl, rfl, .inl ⟨by decide, by decide⟩, _, _, rfl, rfl, _, _, rfl, rfl, wide_pow (b := 120) (by decide) (by decide) (by omega) (by decide) (by decide), .inl ⟨_, rfl, _, _, rfl, rfl, (by show (0 : Int) < 170141183460469231731687303715884105727; decide), ?_⟩⟩
      refine ⟨_, rfl, _, _, rfl, rfl, ⟨by decide, by decide⟩, .inl ⟨_, rfl, _, rfl, _, _, rfl, rfl, m0, ?_⟩⟩
      refine k _ _ (Int.emod_nonneg _ (by omega)) (Int.emod_lt_of_pos _ m0) ?_ ⟨a, b, c + 1, h1, b0, b1, by omega, by omega⟩
      rw [← hH]
      exact Fr.at_
/-- _law_draw stands at fT -/
structure Dk (P : Program) (w : World) (K : PySem.W.Frag) (mg : Str → Option Value) (base : Heap) (fT : Addr) (fdT : FuncData) : Prop where
  ok : FnOk P w K mg base CX0 1 fT fdT ["pool", "span"] spTake
  at_ : mg "_law_draw" = some (.ref fT)
  kp : PySem.W.keepIn K (.ref fT) = true
  bi : Binds K fdT ["pool", "span"] []
theorem scRisingL : FnScope ["pool", "size", "turn"] ["pool", "size"] (defScope sRisingL) := ⟨rfl, rfl, rfl, by decide +kernel, rfl, by decide +kernel, by decide +kernel⟩
theorem ok_risingL {f fT : Addr} {fd fdT : FuncData} (F : Fun K "_law_rising" "_law_rising" sRisingL f fd) (T : Blt mg) (T5 : Blt5 mg) (L : Dk P w K mg base fT fdT) : FnOk P w K mg base CX0 2 f fd ["pool", "size"] spRisingL := by
  refine F.ok scRisingL (fun vs H Q E h => ?_) (fun cdv A outer s H vs Q E hr h => ?_)
  · obtain ⟨p, n, z, rfl, _⟩ := h
    rfl
  · obtain ⟨p, n, z, rfl, hW, hn, z0, z1, k⟩ := h
    refine ⟨_, pss_one (ps_ret (pe_callB (r := rSorted K) cr_sorted (by rfl) T5.sorted (by decide +kernel) (pa_cons (pe_lc (own := [("turn", 2)]) (g := gName 2) (tt := tYes) rfl scRisingL.nd (pi_range1 (by rfl) T.range (pa_cons (pv 1) pa_nil))
          (blkOk_by (N := ["pool", "size", "turn"]) (sc := defScope sRisingL) (by decide +kernel)) (fun _ _ _ _ _ => pg_name (i := 2) scRisingL.nd rfl (.inl rfl)) (fun _ _ _ _ _ => pts_nil)
          (fun _ _ _ _ _ => (pe_call L.ok hr (by rfl) L.at_ L.kp L.bi .nil pass0 (pa_cons (pv 0) (pa_cons (pe_op op_add (pv 1) pe_int) pa_nil))))) pa_nil))), ?_⟩
    refine ⟨_, rfl, z, rfl, by omega, by omega, fun D hD => ?_⟩
    have hDn : D ≠ p := (hW.ne hD).symm
    refine lc_range (lo := 0) (n := z.toNat) (fun i J => ∃ xs : List Int, J D = some (.lst (xs.map V.int)) ∧ xs.length = i ∧ (∀ v ∈ xs, 0 ≤ v ∧ v ≤ z) ∧ Fr p H J ∧ Well J p (n + i))
      ⟨[], upd_same, rfl, fun v hv => absurd hv List.not_mem_nil, Fr.new hD, hW.new hD⟩ ?_ ?_
    · rintro i J hi ⟨xs, hx, xl, xr, xf, xw⟩
      refine ⟨rfl, _, rfl, _, rfl, _, _, rfl, rfl, ⟨p, n + i, z + 1, rfl, xw, (by omega), (by omega), (by omega), fun y J2 y0 y1 f2 w2 => ?_⟩⟩
      have hx2 := f2 _ _ hx hDn
      refine ⟨_, hx2, by rw [List.length_map]; exact small1000 (by omega), xs ++ [y], ?_, by simp [xl], ?_, fun c o e g => ?_, (w2.upd_ne hDn.symm).mono (by omega)⟩
      · rw [upd_same, List.map_append]
        rfl
      · intro v hv
        rcases List.mem_append.mp hv with g | g
        · exact xr v g
        · rw [List.mem_singleton.mp g]
          exact ⟨y0, by omega⟩
      · rw [upd_ne (ne_of_none e hD)]
        exact f2 _ _ (xf _ _ e g) g
    · rintro J ⟨xs, hx, xl, xr, xf, xw⟩
      refine ⟨D, xs, rfl, SqL.of hx, by omega, fun ys q pm srt nq => ?_⟩
      have nqp : q ≠ p := (xw.ne nq).symm
      refine k q ys _ srt (by rw [pm.length_eq]; omega) (fun v hv => xr v (pm.mem_iff.mp hv)) ?_ nqp upd_same (xf.trans (Fr.new nq)) ((xw.new nq).mono (by omega))
      cases e : H q with
      | none => rfl
      | some o =>
        rw [xf _ _ e nqp] at nq
        cases nq
theorem scShape : FnScope ["made"] ["made"] (defScope sShape) := ⟨rfl, rfl, rfl, by decide +kernel, rfl, by decide +kernel, by decide +kernel⟩
theorem ok_shape {f R L p1 g1 p2 g2 p3 g3 : Addr} {fd d1 d2 d3 : FuncData} (F : Fun K "_law_shape" "_law_shape" sShape f fd) (Z : RuC K mg R) (T : Blt mg) (W1 : Pp P w K mg base R "week" (spRuWeek R L) p1 g1 d1) (W2 : Pp P w K mg base R "base" (spRuBase R L) p2 g2 d2) (W3 : Pp P w K mg base R "changes" (spChOf (ThR R L)) p3 g3 d3) :
    FnG P w K mg base 3 f fd ["made"] (spShape R L) := by
  refine okG F scShape (fun vs H Q E h => ?_) (fun cdv A outer s H vs Q E hgd hr h => ?_)
  · obtain ⟨x, av, bs, cs, rfl, _⟩ := h
    rfl
  · obtain ⟨x, av, bs, cs, rfl, ru, l1, l2, b1, b2, k⟩ := h
    have hr2 : Room 2 _ := hr.mono (by decide)
    have hu := hr.units
    refine ⟨_, pss_one (ps_ret (pe_callB (call_rep2 hgd hu) (by rfl) T.repr (by decide +kernel) (pa_cons (pe_lst (pa_cons (pe_prop (pv 0) Z.cl W1.of W1.ok hr2 W1.bi .nil pass0 rfl) (pa_cons (pe_prop (pv 0) Z.cl W2.of W2.ok hr2 W2.bi .nil pass0 rfl) (pa_cons (pe_prop (pv 0) Z.cl W3.of W3.ok hr2 W3.bi .nil pass0 rfl) pa_nil)))) pa_nil))), ?_⟩
    obtain ⟨dx, b, c, l, _, _, hx, _⟩ := id ru
    refine ⟨_, rfl, x, dx, _, rfl, hx, ⟨x, av, bs, cs, rfl, ru, ?_⟩⟩
    refine ⟨_, rfl, x, dx, _, rfl, hx, ⟨x, av, bs, cs, rfl, ru, fun q hq => ?_⟩⟩
    have s1 := same_new (o := .lst (bs.map V.int)) hq
    refine ⟨_, rfl, x, dx, _, rfl, s1 _ _ hx, ⟨x, cs, rfl, ⟨av, bs, ru.same s1⟩, fun H2 r ts s2 nr hr2 tp => ?_⟩⟩
    have hq2 := s2 _ _ (upd_same (H := H) (a := q) (o := .lst (bs.map V.int)))
    refine ⟨(by show 3 ≤ sizeLine; decide), fun e ne => ?_⟩
    have s3 := same_new (o := .lst [.int (bs.length : Nat), .ref q, .ref r]) ne
    refine ⟨e, shapeD bs cs, 300, 10, rfl, .lst (SqL.of upd_same) (.cons (.int _) (.cons (dp_ints (SqL.of (s3 _ _ hq2))) (.cons (dp_marks (SqL.of (s3 _ _ hr2)) (tp.same s3)) .nil))), rp_shape l1 l2 b1 b2, by decide, by decide, ?_⟩
    exact k _ ((s1.trans s2).trans s3)
end

/-! ### data without a heap -/
inductive OV where
  | rul (bs : List Int) (cs : List (Int × Int))
  | cal (ps : List Int) (ms : List (Int × Int))
  | cls
inductive DV where
  | int (i : Int) | bl (b : Bool) | non | str (s : Str) | tup (xs : List DV) | lst (xs : List DV) | obj (o : OV) | pool
mutual
def DV.py : DV → PyData
  | .int i => .int i
  | .bl b => .bool b
  | .non => .none
  | .str s => .str s
  | .tup xs => .tuple (DV.pyAll xs)
  | .lst xs => .list (DV.pyAll xs)
  | .obj _ => .none
  | .pool => .none
def DV.pyAll : List DV → List PyData
  | [] => []
  | x :: xs => x.py :: DV.pyAll xs
end
mutual
def DV.pu : DV → Bool
  | .tup xs => DV.puAll xs
  | .lst xs => DV.puAll xs
  | .obj _ => false
  | .pool => false
  | _ => true
def DV.puAll : List DV → Bool
  | [] => true
  | x :: xs => x.pu && DV.puAll xs
end
def FrS (M : Addr → Prop) (H H' : Hp) : Prop := ∀ b o, H b = some o → ¬ M b → H' b = some o
theorem FrS.refl {M : Addr → Prop} {H : Hp} : FrS M H H := fun _ _ h _ => h
theorem FrS.trans {M : Addr → Prop} {H H1 H2 : Hp} (a : FrS M H H1) (b : FrS M H1 H2) : FrS M H H2 := fun c o h n => b c o (a c o h n) n
theorem FrS.mono {M M' : Addr → Prop} {H H' : Hp} (a : FrS M H H') (h : ∀ b, M b → M' b) : FrS M' H H' := fun c o e n => a c o e fun z => n (h c z)
theorem FrS.of {M : Addr → Prop} {H H' : Hp} (a : Same H H') : FrS M H H' := fun c o e _ => a c o e
theorem FrS.upd {M : Addr → Prop} {H H' : Hp} {q : Addr} {o : HO} (a : FrS M H H') (h : H q = none ∨ M q) : FrS M H (upd H' q o) := fun c u e n => by
  rw [upd_ne]
  · exact a c u e n
  · intro z
    subst z
    rcases h with h | h
    · rw [h] at e
      cases e
    · exact n h
structure Wo where
  p : Option Addr
  ob : (Addr → Prop) → Hp → Addr → OV → Prop
  mono : ∀ {M H H' x o}, ob M H x o → FrS M H H' → ob M H' x o
  sub : ∀ {M M' H x o}, ob M H x o → (∀ a, M' a → M a ∨ H a = none) → ob M' H x o
def pl (W : Wo) : Addr → Prop := fun a => W.p = some a
def Pl (W : Wo) (H : Hp) (n : Nat) : Prop := ∀ p, W.p = some p → Well H p n
inductive Rep (W : Wo) (M : Addr → Prop) (H : Hp) : V → DV → Prop
  | int (i : Int) : Rep W M H (.int i) (.int i)
  | bl (b : Bool) : Rep W M H (.bl b) (.bl b)
  | non : Rep W M H .non .non
  | str (s : Str) : Rep W M H (.str s) (.str s)
  | lst {q : Addr} {vs : List V} {ds : List DV} : H q = some (.lst vs) → ¬ M q → vs.length = ds.length → (∀ (i : Nat) (v : V) (d : DV), vs[i]? = some v → ds[i]? = some d → Rep W M H v d) → Rep W M H (.ref q) (.lst ds)
  | tup {q : Addr} {vs : List V} {ds : List DV} : H q = some (.tup vs) → ¬ M q → vs.length = ds.length → (∀ (i : Nat) (v : V) (d : DV), vs[i]? = some v → ds[i]? = some d → Rep W M H v d) → Rep W M H (.ref q) (.tup ds)
  | obj {x : Addr} {o : OV} : W.ob M H x o → Rep W M H (.ref x) (.obj o)
  | pool {p : Addr} : W.p = some p → Rep W M H (.ref p) .pool
def RepA (W : Wo) (M : Addr → Prop) (H : Hp) (vs : List V) (ds : List DV) : Prop := vs.length = ds.length ∧ ∀ (i : Nat) (v : V) (d : DV), vs[i]? = some v → ds[i]? = some d → Rep W M H v d
section
variable {W : Wo} {M M' : Addr → Prop} {H H' : Hp}
theorem Rep.mono {v : V} {d : DV} (h : Rep W M H v d) (f : FrS M H H') : Rep W M H' v d := by
  induction h with
  | int i => exact .int i
  | bl b => exact .bl b
  | non => exact .non
  | str s => exact .str s
  | lst h1 h2 h3 h4 ih => exact .lst (f _ _ h1 h2) h2 h3 fun i v d e1 e2 => ih i v d e1 e2
  | tup h1 h2 h3 h4 ih => exact .tup (f _ _ h1 h2) h2 h3 fun i v d e1 e2 => ih i v d e1 e2
  | obj h => exact .obj (W.mono h f)
  | pool h => exact .pool h
theorem Rep.sub {v : V} {d : DV} (h : Rep W M H v d) (s : ∀ a, M' a → M a ∨ H a = none) : Rep W M' H v d := by
  have nn : ∀ {q o}, H q = some o → ¬ M q → ¬ M' q := fun e n z => by
    rcases s _ z with z | z
    · exact n z
    · rw [z] at e
      cases e
  induction h with
  | int i => exact .int i
  | bl b => exact .bl b
  | non => exact .non
  | str s => exact .str s
  | lst h1 h2 h3 h4 ih => exact .lst h1 (nn h1 h2) h3 fun i v d e1 e2 => ih i v d e1 e2
  | tup h1 h2 h3 h4 ih => exact .tup h1 (nn h1 h2) h3 fun i v d e1 e2 => ih i v d e1 e2
  | obj h => exact .obj (W.sub h s)
  | pool h => exact .pool h
theorem RepA.mono {vs : List V} {ds : List DV} (h : RepA W M H vs ds) (f : FrS M H H') : RepA W M H' vs ds := ⟨h.1, fun i v d e1 e2 => (h.2 i v d e1 e2).mono f⟩
theorem RepA.sub {vs : List V} {ds : List DV} (h : RepA W M H vs ds) (s : ∀ a, M' a → M a ∨ H a = none) : RepA W M' H vs ds := ⟨h.1, fun i v d e1 e2 => (h.2 i v d e1 e2).sub s⟩
theorem RepA.nil : RepA W M H [] [] := ⟨rfl, fun i v d e => by simp at e⟩
theorem RepA.cons {v : V} {d : DV} {vs : List V} {ds : List DV} (h : Rep W M H v d) (t : RepA W M H vs ds) : RepA W M H (v :: vs) (d :: ds) := by
  refine ⟨by simp [t.1], fun i u e h1 h2 => ?_⟩
  cases i with
  | zero =>
    obtain rfl : v = u := by simpa using h1
    obtain rfl : d = e := by simpa using h2
    exact h
  | succ i => exact t.2 i u e (by simpa using h1) (by simpa using h2)
theorem RepA.head {v : V} {d : DV} {vs : List V} {ds : List DV} (h : RepA W M H (v :: vs) (d :: ds)) : Rep W M H v d ∧ RepA W M H vs ds :=
  ⟨h.2 0 v d rfl rfl, by have := h.1; simpa using this, fun i u e h1 h2 => h.2 (i + 1) u e (by simpa using h1) (by simpa using h2)⟩
theorem RepA.append {vs us : List V} {ds es : List DV} (h : RepA W M H vs ds) (t : RepA W M H us es) : RepA W M H (vs ++ us) (ds ++ es) := by
  induction vs generalizing ds with
  | nil =>
    cases ds with
    | nil => exact t
    | cons d ds => have := h.1; simp at this
  | cons v vs ih =>
    cases ds with
    | nil => have := h.1; simp at this
    | cons d ds => exact .cons h.head.1 (ih h.head.2)
theorem RepA.nil_inv {vs : List V} (h : RepA W M H vs []) : vs = [] := List.length_eq_zero_iff.mp h.1
theorem RepA.one_inv {vs : List V} {d : DV} (h : RepA W M H vs [d]) : ∃ v, vs = [v] ∧ Rep W M H v d := by
  match vs, h.1 with
  | [v], _ => exact ⟨v, rfl, h.head.1⟩
theorem RepA.cons_inv {vs : List V} {d : DV} {ds : List DV} (h : RepA W M H vs (d :: ds)) : ∃ v us, vs = v :: us ∧ Rep W M H v d ∧ RepA W M H us ds := by
  match vs, h.1 with
  | v :: us, _ => exact ⟨v, us, rfl, h.head⟩
theorem RepA.get {vs : List V} {ds : List DV} {i : Nat} {d : DV} (h : RepA W M H vs ds) (e : ds[i]? = some d) : ∃ v, vs[i]? = some v ∧ Rep W M H v d := by
  obtain ⟨hi, _⟩ := List.getElem?_eq_some_iff.mp e
  have hv : i < vs.length := by rw [h.1]; exact hi
  exact ⟨vs[i], List.getElem?_eq_getElem hv, h.2 i _ _ (List.getElem?_eq_getElem hv) e⟩
theorem RepA.of {vs : List V} {ds : List DV} (h : vs.length = ds.length) (g : ∀ (i : Nat) (v : V) (d : DV), vs[i]? = some v → ds[i]? = some d → Rep W M H v d) : RepA W M H vs ds := ⟨h, g⟩
theorem RepA.take {vs : List V} {ds : List DV} (h : RepA W M H vs ds) (n : Nat) : RepA W M H (vs.take n) (ds.take n) := by
  refine ⟨by simp [h.1], fun i v d e1 e2 => ?_⟩
  rw [List.getElem?_take] at e1 e2
  split at e1
  · exact h.2 i v d e1 (by simpa [*] using e2)
  · cases e1
theorem RepA.drop {vs : List V} {ds : List DV} (h : RepA W M H vs ds) (n : Nat) : RepA W M H (vs.drop n) (ds.drop n) := by
  refine ⟨by simp [h.1], fun i v d e1 e2 => ?_⟩
  rw [List.getElem?_drop] at e1 e2
  exact h.2 _ v d e1 e2
theorem RepA.set {vs : List V} {ds : List DV} {v : V} {d : DV} (h : RepA W M H vs ds) (r : Rep W M H v d) (n : Nat) : RepA W M H (vs.set n v) (ds.set n d) := by
  refine ⟨by simp [h.1], fun i u e e1 e2 => ?_⟩
  rw [List.getElem?_set] at e1 e2
  have := h.1
  split at e1
  · rename_i hn
    rw [if_pos hn] at e2
    split at e1
    · obtain rfl := Option.some.inj e1
      split at e2
      · obtain rfl := Option.some.inj e2
        exact r
      · cases e2
    · cases e1
  · rename_i hn
    rw [if_neg hn] at e2
    exact h.2 i u e e1 e2
theorem RepA.reverse {vs : List V} {ds : List DV} (h : RepA W M H vs ds) : RepA W M H vs.reverse ds.reverse := by
  induction vs generalizing ds with
  | nil =>
    cases ds with
    | nil => exact .nil
    | cons d ds => have := h.1; simp at this
  | cons v vs ih =>
    cases ds with
    | nil => have := h.1; simp at this
    | cons d ds =>
      rw [List.reverse_cons, List.reverse_cons]
      exact (ih h.head.2).append (.cons h.head.1 .nil)
theorem RepA.rep {vs : List V} {ds : List DV} (h : RepA W M H vs ds) (n : Nat) : RepA W M H (List.replicate n vs).flatten (List.replicate n ds).flatten := by
  induction n with
  | zero => exact .nil
  | succ n ih =>
    rw [List.replicate_succ, List.replicate_succ, List.flatten_cons, List.flatten_cons]
    exact h.append ih
theorem Rep.int_inv {v : V} {i : Int} (h : Rep W M H v (.int i)) : v = .int i := by cases h; rfl
theorem Rep.bl_inv {v : V} {b : Bool} (h : Rep W M H v (.bl b)) : v = .bl b := by cases h; rfl
theorem Rep.str_inv {v : V} {s : Str} (h : Rep W M H v (.str s)) : v = .str s := by cases h; rfl
theorem Rep.lst_inv {v : V} {ds : List DV} (h : Rep W M H v (.lst ds)) : ∃ q vs, v = .ref q ∧ H q = some (.lst vs) ∧ ¬ M q ∧ RepA W M H vs ds := by
  cases h with
  | lst a b c d => exact ⟨_, _, rfl, a, b, c, d⟩
theorem Rep.tup_inv {v : V} {ds : List DV} (h : Rep W M H v (.tup ds)) : ∃ q vs, v = .ref q ∧ H q = some (.tup vs) ∧ ¬ M q ∧ RepA W M H vs ds := by
  cases h with
  | tup a b c d => exact ⟨_, _, rfl, a, b, c, d⟩
theorem RepA.ints {vs : List V} {xs : List Int} (h : RepA W M H vs (xs.map DV.int)) : vs = xs.map V.int := by
  induction xs generalizing vs with
  | nil => exact h.nil_inv
  | cons x xs ih =>
    obtain ⟨v, us, rfl, h1, h2⟩ := h.cons_inv
    rw [h1.int_inv, ih h2]
    rfl
theorem repA_ints (xs : List Int) : RepA W M H (xs.map V.int) (xs.map DV.int) := by
  induction xs with
  | nil => exact .nil
  | cons x xs ih => exact .cons (.int x) ih
theorem pyAll_map (ds : List DV) : DV.pyAll ds = ds.map DV.py := by
  induction ds with
  | nil => rfl
  | cons d ds ih => rw [DV.pyAll, ih]; rfl
theorem puAll_iff (ds : List DV) : DV.puAll ds = true ↔ ∀ d ∈ ds, d.pu = true := by
  induction ds with
  | nil => simp [DV.puAll]
  | cons d ds ih => simp [DV.puAll, ih]
theorem dpAll_of {K : PySem.W.Frag} {vs : List V} {ds : List DV} (l : vs.length = ds.length) (h : ∀ (i : Nat) (v : V) (d : DV), vs[i]? = some v → ds[i]? = some d → Dp K H v d.py) : DpAll K H vs (DV.pyAll ds) := by
  induction vs generalizing ds with
  | nil =>
    cases ds with
    | nil => exact .nil
    | cons d ds => simp at l
  | cons v vs ih =>
    cases ds with
    | nil => simp at l
    | cons d ds => exact .cons (h 0 v d rfl rfl) (ih (by simpa using l) fun i u e h1 h2 => h (i + 1) u e (by simpa using h1) (by simpa using h2))
theorem Rep.dp {K : PySem.W.Frag} {v : V} {d : DV} (h : Rep W M H v d) (p : d.pu = true) : Dp K H v d.py := by
  induction h with
  | int i => exact .int i
  | bl b => exact .bl b
  | non => exact .non
  | str s => exact .str s
  | lst h1 h2 h3 h4 ih => exact .lst (SqL.of h1) (dpAll_of h3 fun i v d e1 e2 => ih i v d e1 e2 ((puAll_iff _).mp p d (List.mem_of_getElem? e2)))
  | tup h1 h2 h3 h4 ih => exact .tup (SqT.of h1) (dpAll_of h3 fun i v d e1 e2 => ih i v d e1 e2 ((puAll_iff _).mp p d (List.mem_of_getElem? e2)))
  | obj h => exact nomatch p
  | pool h => exact nomatch p
end
def IsL (H : Hp) (a : Addr) : Prop := ∃ vs, H a = some (.lst vs)
theorem IsL.ne {H : Hp} {a : Addr} (h : IsL H a) : H a ≠ none := by
  obtain ⟨vs, e⟩ := h
  rw [e]
  simp
/-! ### the state of a def -/
inductive SV where
  | dat (d : DV) | own (ds : List DV)
abbrev En := List (Option SV)
def Later (W : Wo) (B : Addr → Prop) (M : Addr → Prop) (H : Hp) (M' : Addr → Prop) (H' : Hp) : Prop :=
  (∀ b o, H b = some o → ¬ (M b ∧ ¬ B b) → W.p ≠ some b → H' b = some o) ∧ (∀ a, M' a → M a ∨ H a = none) ∧ (∀ a, B a → M' a)
structure Ok (W : Wo) (B : Addr → Prop) (Φ : (Addr → Prop) → Hp → Prop) (M : Addr → Prop) (σ : L2.St) (H : Hp) (δ : En) (n : Nat) : Prop where
  len : σ.length = δ.length
  dat : ∀ (i : Nat) (d : DV), δ[i]? = some (some (.dat d)) → ∃ v, σ[i]? = some (some v) ∧ Rep W M H v d
  own : ∀ (i : Nat) (ds : List DV), δ[i]? = some (some (.own ds)) → ∃ q vs, σ[i]? = some (some (.ref q)) ∧ M q ∧ ¬ B q ∧ H q = some (.lst vs) ∧ RepA W M H vs ds
  apart : ∀ (i j : Nat) (ds es : List DV) (q : Addr), δ[i]? = some (some (.own ds)) → δ[j]? = some (some (.own es)) → σ[i]? = some (some (.ref q)) → σ[j]? = some (some (.ref q)) → i = j
  base : ∀ a, B a → M a
  dom : ∀ a, M a → IsL H a
  pool : ∀ p, W.p = some p → B p ∧ Well H p n
  phi : Φ M H
  cl : ∀ M H M' H', Φ M H → Later W B M H M' H' → Φ M' H'
section
variable {W : Wo} {B M : Addr → Prop} {Φ : (Addr → Prop) → Hp → Prop} {σ : L2.St} {H H' : Hp} {δ : En} {n m : Nat}
theorem Ok.plM (k : Ok W B Φ M σ H δ n) : ∀ a, pl W a → M a := fun a h => k.base a (k.pool a h).1
theorem Ok.frM (k : Ok W B Φ M σ H δ n) {H1 H2 : Hp} (f : FrS (pl W) H1 H2) : FrS M H1 H2 := f.mono k.plM
theorem dom_fr (f : FrS (pl W) H H') (p : Pl W H' m) {a : Addr} (h : IsL H a) : IsL H' a := by
  obtain ⟨vs, e⟩ := h
  by_cases z : W.p = some a
  · obtain ⟨_, _, _, e2, _⟩ := p a z
    exact ⟨_, e2⟩
  · exact ⟨_, f a _ e z⟩
theorem Ok.expr (k : Ok W B Φ M σ H δ n) (f : FrS (pl W) H H') (p : Pl W H' m) : Ok W B Φ M σ H' δ m where
  len := k.len
  dat := fun i d e => let ⟨v, e1, r⟩ := k.dat i d e; ⟨v, e1, r.mono (k.frM f)⟩
  own := fun i ds e => by
    obtain ⟨q, vs, e1, h1, h2, h3, h4⟩ := k.own i ds e
    exact ⟨q, vs, e1, h1, h2, f _ _ h3 (fun z => h2 (k.pool q z).1), h4.mono (k.frM f)⟩
  apart := k.apart
  base := k.base
  dom := fun a h => dom_fr f p (k.dom a h)
  pool := fun q e => ⟨(k.pool q e).1, p q e⟩
  phi := k.cl _ _ _ _ k.phi ⟨fun b o e _ h => f b o e h, fun a h => .inl h, k.base⟩
  cl := k.cl
theorem Ok.plOf (k : Ok W B Φ M σ H δ n) : Pl W H n := fun p e => (k.pool p e).2
theorem get_set {α : Type} {l : List α} {i j : Nat} {x y : α} (h : (l.set i x)[j]? = some y) : (i = j ∧ y = x ∧ i < l.length) ∨ (i ≠ j ∧ l[j]? = some y) := by
  rw [List.getElem?_set] at h
  split at h
  · rename_i e
    split at h
    · exact .inl ⟨e, (Option.some.inj h).symm, by assumption⟩
    · cases h
  · exact .inr ⟨by assumption, h⟩
theorem Ok.set (k : Ok W B Φ M σ H δ n) {v : V} {d : DV} (r : Rep W M H v d) (i : Nat) : Ok W B Φ M (σ.set i (some v)) H (δ.set i (some (.dat d))) n where
  len := by simp [k.len]
  dat := fun j e h => by
    rcases get_set h with ⟨rfl, e1, hl⟩ | ⟨ne, h⟩
    · obtain rfl : e = d := by simpa using e1
      exact ⟨v, by rw [List.getElem?_set_self (by rw [k.len]; exact hl)], r⟩
    · obtain ⟨u, e1, r1⟩ := k.dat j e h
      exact ⟨u, by rw [List.getElem?_set_ne ne]; exact e1, r1⟩
  own := fun j e h => by
    rcases get_set h with ⟨rfl, e1, hl⟩ | ⟨ne, h⟩
    · simp at e1
    · obtain ⟨q, vs, e1, r1⟩ := k.own j e h
      exact ⟨q, vs, by rw [List.getElem?_set_ne ne]; exact e1, r1⟩
  apart := fun a b ds es q h1 h2 h3 h4 => by
    rcases get_set h1 with ⟨rfl, e1, hl⟩ | ⟨ne, h1⟩
    · simp at e1
    · rcases get_set h2 with ⟨rfl, e1, hl⟩ | ⟨ne2, h2⟩
      · simp at e1
      · rw [List.getElem?_set_ne ne] at h3
        rw [List.getElem?_set_ne ne2] at h4
        exact k.apart a b ds es q h1 h2 h3 h4
  base := k.base
  dom := k.dom
  pool := k.pool
  phi := k.phi
  cl := k.cl
/-- a new list that stays one's own -/
theorem Ok.setOwn (k : Ok W B Φ M σ H δ n) (f : FrS (pl W) H H') (p : Pl W H' m) {q : Addr} {vs : List V} {ds : List DV} (nq : H q = none) (hq : H' q = some (.lst vs)) (r : RepA W (fun a => M a ∨ a = q) H' vs ds) (i : Nat) :
    Ok W B Φ (fun a => M a ∨ a = q) (σ.set i (some (.ref q))) H' (δ.set i (some (.own ds))) m := by
  have nM : ¬ M q := fun z => (k.dom q z).ne nq
  have nB : ¬ B q := fun z => nM (k.base q z)
  have sub : ∀ a, (M a ∨ a = q) → M a ∨ H a = none := fun a h => h.imp id fun e => by rw [e]; exact nq
  have old : ∀ {v d}, Rep W M H v d → Rep W (fun a => M a ∨ a = q) H' v d := fun h => (h.sub sub).mono (fun b o e z => f b o e fun z2 => z (.inl (k.plM b z2)))
  have oldA : ∀ {vs ds}, RepA W M H vs ds → RepA W (fun a => M a ∨ a = q) H' vs ds := fun h => ⟨h.1, fun i v d e1 e2 => old (h.2 i v d e1 e2)⟩
  
  refine ⟨by simp [k.len], fun j e h => ?_, fun j e h => ?_, fun a b ds es t h1 h2 h3 h4 => ?_, fun a h => .inl (k.base a h), fun a h => ?_, fun t e => ⟨(k.pool t e).1, p t e⟩, k.cl _ _ _ _ k.phi ⟨fun b o e _ h => f b o e h, sub, fun a h => .inl (k.base a h)⟩, k.cl⟩
  · rcases get_set h with ⟨rfl, e1, hl⟩ | ⟨ne, h⟩
    · simp at e1
    · obtain ⟨v, e1, r1⟩ := k.dat j e h
      exact ⟨v, by rw [List.getElem?_set_ne ne]; exact e1, old r1⟩
  · rcases get_set h with ⟨rfl, e1, hl⟩ | ⟨ne, h⟩
    · obtain rfl : e = ds := by simpa using e1
      exact ⟨q, vs, by rw [List.getElem?_set_self (by rw [k.len]; exact hl)], .inr rfl, nB, hq, r⟩
    · obtain ⟨t, us, e1, h1, h2, h3, h4⟩ := k.own j e h
      exact ⟨t, us, by rw [List.getElem?_set_ne ne]; exact e1, .inl h1, h2, f _ _ h3 (fun z => h2 (k.pool t z).1), oldA h4⟩
  · have own1 : ∀ {j : Nat} {es : List DV}, δ[j]? = some (some (.own es)) → σ[j]? = some (some (.ref t)) → t ≠ q := fun {j es} h g z => by
      obtain ⟨t2, us, e1, _, _, h5, _⟩ := k.own j es h
      rw [e1] at g
      obtain rfl : t2 = t := by simpa using g
      rw [z, nq] at h5
      cases h5
    rcases get_set h1 with ⟨rfl, e1, hl⟩ | ⟨ne, h1⟩
    · rw [List.getElem?_set_self (by rw [k.len]; exact hl)] at h3
      obtain rfl : q = t := by simpa using h3
      rcases get_set h2 with ⟨e2, _, _⟩ | ⟨ne2, h2⟩
      · exact e2
      · rw [List.getElem?_set_ne ne2] at h4
        exact absurd rfl (own1 h2 h4)
    · rw [List.getElem?_set_ne ne] at h3
      rcases get_set h2 with ⟨rfl, e2, hl⟩ | ⟨ne2, h2⟩
      · rw [List.getElem?_set_self (by rw [k.len]; exact hl)] at h4
        obtain rfl : q = t := by simpa using h4
        exact absurd rfl (own1 h1 h3)
      · rw [List.getElem?_set_ne ne2] at h4
        exact k.apart a b _ _ t h1 h2 h3 h4
  · rcases h with h | h
    · exact dom_fr f p (k.dom a h)
    · rw [h]
      exact ⟨_, hq⟩
/-- one's own list at slot i is written -/
theorem Ok.write (k : Ok W B Φ M σ H δ n) {i : Nat} {q : Addr} {vs : List V} {ds ds' : List DV} (e : δ[i]? = some (some (.own ds))) (s : σ[i]? = some (some (.ref q))) (r : RepA W M H vs ds') :
    Ok W B Φ M σ (upd H q (.lst vs)) (δ.set i (some (.own ds'))) n := by
  obtain ⟨q2, us, e1, hM, hB, hq, r0⟩ := k.own i ds e
  rw [s] at e1
  obtain rfl : q = q2 := by simpa using e1
  have hi : i < δ.length := (List.getElem?_eq_some_iff.mp e).1
  have f : FrS M H (upd H q (.lst vs)) := FrS.refl.upd (.inr hM)
  refine ⟨by simp [k.len], fun j d h => ?_, fun j es h => ?_, fun a b ds es t h1 h2 h3 h4 => ?_, k.base, fun a h => ?_, fun t e => ⟨(k.pool t e).1, ?_⟩, k.cl _ _ _ _ k.phi ⟨fun b o e n _ => ?_, fun a h => .inl h, k.base⟩, k.cl⟩
  · rcases get_set h with ⟨rfl, e1, hl⟩ | ⟨ne, h⟩
    · simp at e1
    · obtain ⟨v, e1, r1⟩ := k.dat j d h
      exact ⟨v, e1, r1.mono f⟩
  · rcases get_set h with ⟨rfl, e1, hl⟩ | ⟨ne, h⟩
    · obtain rfl : es = ds' := by simpa using e1
      exact ⟨q, vs, s, hM, hB, upd_same, r.mono f⟩
    · obtain ⟨t, us, e1, h1, h2, h3, h4⟩ := k.own j es h
      have tq : t ≠ q := fun z => ne (k.apart i j ds es q e h s (by rw [e1, z]))
      exact ⟨t, us, e1, h1, h2, by rw [upd_ne tq]; exact h3, h4.mono f⟩
  · have back : ∀ {j : Nat} {es : List DV}, (δ.set i (some (SV.own ds')))[j]? = some (some (.own es)) → ∃ fs, δ[j]? = some (some (.own fs)) := fun {j es} h => by
      rcases get_set h with ⟨rfl, _, _⟩ | ⟨_, h⟩
      · exact ⟨_, e⟩
      · exact ⟨_, h⟩
    obtain ⟨_, h1⟩ := back h1
    obtain ⟨_, h2⟩ := back h2
    exact k.apart a b _ _ t h1 h2 h3 h4
  · by_cases z : a = q
    · rw [z]
      exact ⟨_, upd_same⟩
    · obtain ⟨us, e2⟩ := k.dom a h
      exact ⟨us, by rw [upd_ne z]; exact e2⟩
  · have tq : t ≠ q := fun z => hB (by rw [← z]; exact (k.pool t e).1)
    exact (k.pool t e).2.upd_ne tq
  · rw [upd_ne]
    · exact e
    · intro z
      exact n (by rw [z]; exact ⟨hM, hB⟩)
/-- one's own list is written no more -/
theorem Ok.frz (k : Ok W B Φ M σ H δ n) {i : Nat} {ds : List DV} (e : δ[i]? = some (some (.own ds))) : ∃ M', Ok W B Φ M' σ H (δ.set i (some (.dat (.lst ds)))) n := by
  obtain ⟨q, vs, s, hM, hB, hq, r⟩ := k.own i ds e
  have hi : i < δ.length := (List.getElem?_eq_some_iff.mp e).1
  have sub : ∀ a, (M a ∧ a ≠ q) → M a ∨ H a = none := fun a h => .inl h.1
  refine ⟨fun a => M a ∧ a ≠ q, by simp [k.len], fun j d h => ?_, fun j es h => ?_, fun a b fs es t h1 h2 h3 h4 => ?_, fun a h => ⟨k.base a h, fun z => hB (by rw [← z]; exact h)⟩, fun a h => k.dom a h.1, k.pool, k.cl _ _ _ _ k.phi ⟨fun b o e n _ => e, sub, fun a h => ⟨k.base a h, fun z => hB (by rw [← z]; exact h)⟩⟩, k.cl⟩
  · rcases get_set h with ⟨rfl, e1, hl⟩ | ⟨ne, h⟩
    · obtain rfl : d = .lst ds := by simpa using e1
      have r2 := r.sub sub
      exact ⟨.ref q, s, .lst hq (fun z => z.2 rfl) r2.1 r2.2⟩
    · obtain ⟨v, e1, r1⟩ := k.dat j d h
      exact ⟨v, e1, r1.sub sub⟩
  · rcases get_set h with ⟨rfl, e1, hl⟩ | ⟨ne, h⟩
    · simp at e1
    · obtain ⟨t, us, e1, h1, h2, h3, h4⟩ := k.own j es h
      have tq : t ≠ q := fun z => ne (k.apart i j ds es q e h s (by rw [e1, z]))
      exact ⟨t, us, e1, ⟨h1, tq⟩, h2, h3, h4.sub sub⟩
  · have back : ∀ {j : Nat} {es : List DV}, (δ.set i (some (SV.dat (.lst ds))))[j]? = some (some (.own es)) → δ[j]? = some (some (.own es)) := fun {j es} h => by
      rcases get_set h with ⟨rfl, e1, _⟩ | ⟨_, h⟩
      · simp at e1
      · exact h
    exact k.apart a b _ _ t (back h1) (back h2) h3 h4
/-- a wider wish about the heap -/
theorem Ok.more (k : Ok W B Φ M σ H δ n) (Ψ : (Addr → Prop) → Hp → Prop) (h : Ψ M H) (c : ∀ M H M' H', Ψ M H → Later W B M H M' H' → Ψ M' H') : Ok W B (fun M H => Φ M H ∧ Ψ M H) M σ H δ n :=
  ⟨k.len, k.dat, k.own, k.apart, k.base, k.dom, k.pool, ⟨k.phi, h⟩, fun M H M' H' q l => ⟨k.cl _ _ _ _ q.1 l, c _ _ _ _ q.2 l⟩⟩
theorem Ok.less {Ψ : (Addr → Prop) → Hp → Prop} (k : Ok W B (fun M H => Φ M H ∧ Ψ M H) M σ H δ n) (c : ∀ M H M' H', Φ M H → Later W B M H M' H' → Φ M' H') : Ok W B Φ M σ H δ n :=
  ⟨k.len, k.dat, k.own, k.apart, k.base, k.dom, k.pool, k.phi.1, c⟩
/-- what stood at some time, apart from what was then changing -/
def Sin (M1 : Addr → Prop) (H1 : Hp) : (Addr → Prop) → Hp → Prop := fun M H => FrS M1 H1 H ∧ (∀ a, M a → M1 a ∨ H1 a = none)
theorem sin_cl {M1 : Addr → Prop} {H1 : Hp} (b1 : ∀ a, B a → M1 a) (pb : ∀ a, W.p = some a → B a) : ∀ M H M' H', Sin M1 H1 M H → Later W B M H M' H' → Sin M1 H1 M' H' := fun M H M' H' ⟨f, s⟩ ⟨l1, l2, _⟩ =>
  ⟨fun b o e n => l1 b o (f b o e n) (fun z => by
      rcases s b z.1 with q | q
      · exact n q
      · rw [q] at e
        cases e) (fun z => n (b1 b (pb b z))), fun a h => by
    rcases l2 a h with q | q
    · exact s a q
    · by_cases z : M1 a
      · exact .inl z
      · refine .inr ?_
        cases e : H1 a with
        | none => rfl
        | some o =>
          rw [f a o e z] at q
          cases q⟩
end

/-! ### readings without a heap: expressions -/
abbrev TD := En → Nat → (DV → Nat → Prop) → Prop
abbrev TDA := En → Nat → (List DV → Nat → Prop) → Prop
abbrev TDT := En → Nat → (Bool → Nat → Prop) → Prop
abbrev WPhi := (Addr → Prop) → Hp → Prop
def TrE (W : Wo) (t : TE) (d : TD) : Prop := ∀ (B : Addr → Prop) (Φ : WPhi) (M : Addr → Prop) (σ : L2.St) (H : Hp) (δ : En) (n : Nat) (Q : VK) (K : DV → Nat → Prop), Ok W B Φ M σ H δ n →
  (∀ r m v H', FrS (pl W) H H' → Pl W H' m → Rep W M H' v r → K r m → Q v H') → d δ n K → t σ H Q
def TrA (W : Wo) (t : TA) (d : TDA) : Prop := ∀ (B : Addr → Prop) (Φ : WPhi) (M : Addr → Prop) (σ : L2.St) (H : Hp) (δ : En) (n : Nat) (Q : List V → Hp → Prop) (K : List DV → Nat → Prop), Ok W B Φ M σ H δ n →
  (∀ r m v H', FrS (pl W) H H' → Pl W H' m → RepA W M H' v r → K r m → Q v H') → d δ n K → t σ H Q
def TrT (W : Wo) (t : TT) (d : TDT) : Prop := ∀ (B : Addr → Prop) (Φ : WPhi) (M : Addr → Prop) (σ : L2.St) (H : Hp) (δ : En) (n : Nat) (Q : Bool → Hp → Prop) (K : Bool → Nat → Prop), Ok W B Φ M σ H δ n →
  (∀ b m H', FrS (pl W) H H' → Pl W H' m → K b m → Q b H') → d δ n K → t σ H Q
/-- a new list -/
def TrF (W : Wo) (t : TE) (d : TDA) : Prop := ∀ (B : Addr → Prop) (Φ : WPhi) (M : Addr → Prop) (σ : L2.St) (H : Hp) (δ : En) (n : Nat) (Q : VK) (K : List DV → Nat → Prop), Ok W B Φ M σ H δ n →
  (∀ r m q vs H', FrS (pl W) H H' → Pl W H' m → H q = none → H' q = some (.lst vs) → RepA W (fun a => M a ∨ a = q) H' vs r → K r m → Q (.ref q) H') → d δ n K → t σ H Q
/-- a list that is read -/
def TrQ (W : Wo) (t : TE) (d : TDA) : Prop := ∀ (B : Addr → Prop) (Φ : WPhi) (M : Addr → Prop) (σ : L2.St) (H : Hp) (δ : En) (n : Nat) (Q : VK) (K : List DV → Nat → Prop), Ok W B Φ M σ H δ n →
  (∀ r m q vs H', FrS (pl W) H H' → Pl W H' m → H' q = some (.lst vs) → ¬ B q → RepA W M H' vs r → K r m → Q (.ref q) H') → d δ n K → t σ H Q
structure DE (X : Cx) (W : Wo) (e : Expr) (t : TE) (d : TD) : Prop where
  pe : PE X e t
  tr : TrE W t d
structure DF (X : Cx) (W : Wo) (e : Expr) (t : TE) (d : TDA) : Prop where
  pe : PE X e t
  tr : TrF W t d
structure DQ (X : Cx) (W : Wo) (e : Expr) (t : TE) (d : TDA) : Prop where
  pe : PE X e t
  tr : TrQ W t d
structure DA (X : Cx) (W : Wo) (es : List Expr) (t : TA) (d : TDA) : Prop where
  pa : PA X es t
  tr : TrA W t d
structure DT (X : Cx) (W : Wo) (e : Expr) (t : TT) (d : TDT) : Prop where
  pt : PT X e t
  tr : TrT W t d
structure DW (X : Cx) (W : Wo) (e : Expr) (t : TT) (d : TDT) : Prop where
  pw : PW X e t
  tr : TrT W t d
def DV.asI : DV → (Int → Prop) → Prop
  | .int i, k => k i
  | _, _ => False
def DV.asB : DV → (Bool → Prop) → Prop
  | .bl i, k => k i
  | _, _ => False
def DV.asL : DV → (List DV → Prop) → Prop
  | .lst i, k => k i
  | _, _ => False
def DV.asT : DV → (List DV → Prop) → Prop
  | .tup i, k => k i
  | _, _ => False
theorem DV.asI_inv {d : DV} {k : Int → Prop} (h : d.asI k) : ∃ i, d = .int i ∧ k i := by cases d <;> first | exact ⟨_, rfl, h⟩ | exact h.elim
theorem DV.asB_inv {d : DV} {k : Bool → Prop} (h : d.asB k) : ∃ i, d = .bl i ∧ k i := by cases d <;> first | exact ⟨_, rfl, h⟩ | exact h.elim
theorem DV.asL_inv {d : DV} {k : List DV → Prop} (h : d.asL k) : ∃ i, d = .lst i ∧ k i := by cases d <;> first | exact ⟨_, rfl, h⟩ | exact h.elim
theorem DV.asT_inv {d : DV} {k : List DV → Prop} (h : d.asT k) : ∃ i, d = .tup i ∧ k i := by cases d <;> first | exact ⟨_, rfl, h⟩ | exact h.elim
def dvar (δ : En) (i : Nat) (k : DV → Prop) : Prop := match δ[i]? with
  | some (some (.dat d)) => k d
  | _ => False
def down (δ : En) (i : Nat) (k : List DV → Prop) : Prop := match δ[i]? with
  | some (some (.own ds)) => k ds
  | _ => False
theorem dvar_inv {δ : En} {i : Nat} {k : DV → Prop} (h : dvar δ i k) : ∃ d, δ[i]? = some (some (.dat d)) ∧ k d := by
  unfold dvar at h
  split at h
  · exact ⟨_, by assumption, h⟩
  · exact h.elim
theorem down_inv {δ : En} {i : Nat} {k : List DV → Prop} (h : down δ i k) : ∃ d, δ[i]? = some (some (.own d)) ∧ k d := by
  unfold down at h
  split at h
  · exact ⟨_, by assumption, h⟩
  · exact h.elim
def dVar (i : Nat) : TD := fun δ n K => dvar δ i fun d => K d n
def dOwn (i : Nat) : TDA := fun δ n K => down δ i fun d => K d n
def dC (d : DV) : TD := fun _ n K => K d n
def dL (d : TD) : TDA := fun δ n K => d δ n fun x m => x.asL fun ds => K ds m
def dFE (d : TDA) : TD := fun δ n K => d δ n fun ds m => K (.lst ds) m
def dNil : TDA := fun _ n K => K [] n
def dCons (a : TD) (b : TDA) : TDA := fun δ n K => a δ n fun x m => b δ m fun xs k => K (x :: xs) k
def dOp (f : DV → DV → (DV → Prop) → Prop) (a b : TD) : TD := fun δ n K => a δ n fun x m => b δ m fun y k => f x y fun z => K z k
def dUn (f : DV → (DV → Prop) → Prop) (a : TD) : TD := fun δ n K => a δ n fun x m => f x fun z => K z m
def dTup (a : TDA) : TD := fun δ n K => a δ n fun xs m => xs.length ≤ 1000 ∧ K (.tup xs) m
def dLst (a : TDA) : TDA := fun δ n K => a δ n fun xs m => xs.length ≤ 1000 ∧ K xs m
section
variable {X : Cx} {W : Wo} {e a b : Expr} {es : List Expr} {t ta tb : TE} {d da db : TD} {pos : Pos} {tA : TA} {dA : TDA}
theorem trE_var (i : Nat) : TrE W (tVar i) (dVar i) := fun B Φ M σ H δ n Q K ok c h => by
  obtain ⟨d, e, h⟩ := dvar_inv h
  obtain ⟨v, e1, r⟩ := ok.dat i d e
  exact ⟨v, e1, c _ _ _ _ .refl ok.plOf r h⟩
theorem trE_c {v : V} {d : DV} (h : ∀ M H, Rep W M H v d) : TrE W (tC v) (dC d) := fun B Φ M σ H δ n Q K ok c q => c _ _ _ _ .refl ok.plOf (h M H) q
theorem trF_E {t : TE} {d : TDA} (h : TrF W t d) : TrE W t (dFE d) := fun B Φ M σ H δ n Q K ok c q =>
  h B Φ M σ H δ n Q _ ok (fun r m a vs H' f p n1 h1 ra k => c _ _ _ _ f p (.lst h1 (fun z => (ok.dom a z).ne n1) ra.1 (ra.sub fun b z => .inl (.inl z)).2) k) q
theorem trE_Q {t : TE} {d : TD} (h : TrE W t d) : TrQ W t (dL d) := fun B Φ M σ H δ n Q K ok c q =>
  h B Φ M σ H δ n Q _ ok (fun r m v H' f p ra k => by
    obtain ⟨ds, rfl, k⟩ := DV.asL_inv k
    obtain ⟨a, vs, rfl, h1, h2, h3⟩ := ra.lst_inv
    exact c _ _ _ _ _ f p h1 (fun z => h2 (ok.base a z)) h3 k) q
theorem trQ_own (i : Nat) : TrQ W (tVar i) (dOwn i) := fun B Φ M σ H δ n Q K ok c h => by
  obtain ⟨d, e, h⟩ := down_inv h
  obtain ⟨q, vs, e1, h1, h2, h3, h4⟩ := ok.own i d e
  exact ⟨.ref q, e1, c _ _ _ _ _ .refl ok.plOf h3 h2 h4 h⟩
theorem dv (i : Nat) {x : Str} {pos : Pos} (hN : X.N[i]? = some x := by rfl) (hv : Vis X.env.scope x := by first | exact Or.inl rfl | exact Or.inr (Or.inl rfl) | exact Or.inr (Or.inr rfl)) (hd : (x == ("__debug__" : Str)) = false := by decide)
    (hcd : (x == ("__classdict__" : Str)) = false := by decide) : DE X W (.Name x pos) (tVar i) (dVar i) := ⟨pe_var hN hv hd hcd, trE_var i⟩
theorem do_ (i : Nat) {x : Str} {pos : Pos} (hN : X.N[i]? = some x := by rfl) (hv : Vis X.env.scope x := by first | exact Or.inl rfl | exact Or.inr (Or.inl rfl) | exact Or.inr (Or.inr rfl)) (hd : (x == ("__debug__" : Str)) = false := by decide)
    (hcd : (x == ("__classdict__" : Str)) = false := by decide) : DQ X W (.Name x pos) (tVar i) (dOwn i) := ⟨pe_var hN hv hd hcd, trQ_own i⟩
theorem de_int {i j pos} : DE X W (.Constant (.int i) j pos) (tC (.int i)) (dC (.int i)) := ⟨pe_int, trE_c fun _ _ => .int i⟩
theorem de_bl {b j pos} : DE X W (.Constant (.bool b) j pos) (tC (.bl b)) (dC (.bl b)) := ⟨pe_bl, trE_c fun _ _ => .bl b⟩
theorem de_non {j pos} : DE X W (.Constant .none j pos) (tC .non) (dC .non) := ⟨pe_non, trE_c fun _ _ => .non⟩
theorem de_str {x j pos} : DE X W (.Constant (.str x) j pos) (tC (.str x)) (dC (.str x)) := ⟨pe_str, trE_c fun _ _ => .str x⟩
theorem de_f {t : TE} {d : TDA} (h : DF X W e t d) : DE X W e t (dFE d) := ⟨h.pe, trF_E h.tr⟩
theorem dq {t : TE} {d : TD} (h : DE X W e t d) : DQ X W e t (dL d) := ⟨h.pe, trE_Q h.tr⟩
theorem da_nil : DA X W [] tNil dNil := ⟨pa_nil, fun B Φ M σ H δ n Q K ok c h => c _ _ _ _ .refl ok.plOf .nil h⟩
theorem da_cons (ha : DE X W e t d) (hr : DA X W es tA dA) (hs : starEach (e :: es) X.env = (false, eval e X.env) :: starEach es X.env := by rfl) : DA X W (e :: es) (tCons t tA) (dCons d dA) :=
  ⟨pa_cons ha.pe hr.pa hs, fun B Φ M σ H δ n Q K ok c h => ha.tr B Φ M σ H δ n _ _ ok (fun r m v H1 f p ra h => hr.tr B Φ M σ H1 δ m _ _ (ok.expr f p) (fun rs k vs H2 f2 p2 rb h =>
    c _ _ _ _ (f.trans f2) p2 (.cons (ra.mono (ok.frM f2)) rb) h) h) h⟩
theorem repA_new {M : Addr → Prop} {H : Hp} {q : Addr} {o : HO} {vs : List V} {ds : List DV} (r : RepA W M H vs ds) (h : H q = none) : RepA W (fun a => M a ∨ a = q) (upd H q o) vs ds :=
  (r.sub fun a z => z.imp id fun e => by rw [e]; exact h).mono (FrS.refl.upd (.inl h))
theorem pl_new {H : Hp} {q : Addr} {o : HO} {n : Nat} (p : Pl W H n) (h : H q = none) : Pl W (upd H q o) n := fun a e => (p a e).new h
theorem none_fr {H H' : Hp} {n : Nat} {q : Addr} (f : FrS (pl W) H H') (p : Pl W H' n) (h : H' q = none) : H q = none := by
  cases e : H q with
  | none => rfl
  | some o =>
    by_cases z : W.p = some q
    · obtain ⟨a, b, c, hw, _⟩ := p q z
      rw [hw] at h
      cases h
    · rw [f q o e z] at h
      cases h
theorem le_size {n : Nat} (h : n ≤ 1000) : n ≤ sizeLine := Nat.le_trans h (by decide)
theorem df_lst (h : DA X W es tA dA) : DF X W (.List es pos) (tLst tA) (dLst dA) := ⟨pe_lst h.pa, fun B Φ M σ H δ n Q K ok c q => h.tr B Φ M σ H δ n _ _ ok (fun r m v H' f p ra k =>
  ⟨by rw [ra.1]; exact le_size k.1, fun a na => c _ _ _ _ _ (f.upd (.inl (none_fr f p na))) (pl_new p na) (none_fr f p na) upd_same (repA_new ra na) k.2⟩) q⟩
theorem de_tup {x1} (h : DA X W es tA dA) : DE X W (.Tuple es x1 pos) (tTup tA) (dTup dA) := ⟨pe_tup h.pa, fun B Φ M σ H δ n Q K ok c q => h.tr B Φ M σ H δ n _ _ ok (fun r m v H' f p ra k => by
  refine ⟨by rw [ra.1]; exact le_size k.1, fun a na => ?_⟩
  have na0 := none_fr f p na
  have r2 := ra.mono (H' := upd H' a (.tup v)) (FrS.refl.upd (.inl na))
  exact c _ _ _ _ (f.upd (.inl na0)) (pl_new p na) (.tup upd_same (fun z => (ok.dom a z).ne na0) r2.1 r2.2) k.2) q⟩
def RdOp (W : Wo) (r : R2) (f : DV → DV → (DV → Prop) → Prop) : Prop := ∀ (M : Addr → Prop) (H : Hp) (x y : V) (dx dy : DV) (Q : VK) (K : DV → Prop), (∀ a, M a → IsL H a) → Rep W M H x dx → Rep W M H y dy →
  (∀ z v H', Same H H' → Rep W M H' v z → K z → Q v H') → f dx dy K → r x y H Q
theorem pl_same {H H' : Hp} {n : Nat} (p : Pl W H n) (s : Same H H') : Pl W H' n := fun a e => (p a e).same s
theorem trE_op {r : R2} {f : DV → DV → (DV → Prop) → Prop} (hr : RdOp W r f) (ha : TrE W ta da) (hb : TrE W tb db) : TrE W (tOp r ta tb) (dOp f da db) := fun B Φ M σ H δ n Q K ok c h =>
  ha B Φ M σ H δ n _ _ ok (fun x m v H1 f1 p1 r1 h => hb B Φ M σ H1 δ m _ _ (ok.expr f1 p1) (fun y k u H2 f2 p2 r2 h =>
    hr M H2 v u x y Q (fun z => K z k) (fun a z => dom_fr (f1.trans f2) p2 (ok.dom a z)) (r1.mono (ok.frM f2)) r2 (fun z w H3 s r3 q => c _ _ _ _ ((f1.trans f2).trans (.of s)) (pl_same p2 s) r3 q) h) h) h
theorem de_op {op : Operator} {r : R2} {f : DV → DV → (DV → Prop) → Prop} (ho : OpR X (binaryOp op) r) (hr : RdOp W r f) (ha : DE X W a ta da) (hb : DE X W b tb db) : DE X W (.BinOp a op b pos) (tOp r ta tb) (dOp f da db) :=
  ⟨pe_op ho ha.pe hb.pe, trE_op hr ha.tr hb.tr⟩
theorem de_cmp {op : CmpOp} {r : R2} {f : DV → DV → (DV → Prop) → Prop} (ho : OpR X (compareOp op) r) (hr : RdOp W r f) (ha : DE X W a ta da) (hb : DE X W b tb db) (hm : behindInMarks op b = false := by exact nomark _) : DE X W (.Compare a [op] [b] pos) (tOp r ta tb) (dOp f da db) :=
  ⟨pe_cmpR ho ha.pe hb.pe hm, trE_op hr ha.tr hb.tr⟩
def RdUn (W : Wo) (r : V → Hp → VK → Prop) (f : DV → (DV → Prop) → Prop) : Prop := ∀ (M : Addr → Prop) (H : Hp) (x : V) (dx : DV) (Q : VK) (K : DV → Prop), (∀ a, M a → IsL H a) → Rep W M H x dx →
  (∀ z v H', Same H H' → Rep W M H' v z → K z → Q v H') → f dx K → r x H Q
theorem de_un {op : UnaryOp} {r : V → Hp → VK → Prop} {f : DV → (DV → Prop) → Prop} (ho : UnR X (unaryOp op) r) (hr : RdUn W r f) (ha : DE X W a ta da) : DE X W (.UnaryOp op a pos) (tUn r ta) (dUn f da) :=
  ⟨pe_un ho ha.pe, fun B Φ M σ H δ n Q K ok c h => ha.tr B Φ M σ H δ n _ _ ok (fun x m v H1 f1 p1 r1 h =>
    hr M H1 v x Q (fun z => K z m) (fun a z => dom_fr f1 p1 (ok.dom a z)) r1 (fun z w H3 s r3 q => c _ _ _ _ (f1.trans (.of s)) (pl_same p1 s) r3 q) h) h⟩
/-- two ints in -/
def fI (C : Int → Int → Prop) (g : Int → Int → DV) : DV → DV → (DV → Prop) → Prop := fun x y K => x.asI fun i => y.asI fun j => C i j ∧ K (g i j)
def fI0 (g : Int → Int → DV) : DV → DV → (DV → Prop) → Prop := fun x y K => x.asI fun i => y.asI fun j => K (g i j)
theorem rd_I {C : Int → Int → Prop} {g : Int → Int → Int} : RdOp W (rI C fun i j => .int (g i j)) (fI C fun i j => .int (g i j)) := fun M H x y dx dy Q K _ hx hy c h => by
  obtain ⟨i, rfl, h1⟩ := DV.asI_inv h
  obtain ⟨j, rfl, h⟩ := DV.asI_inv h1
  exact ⟨i, j, hx.int_inv, hy.int_inv, h.1, c _ _ _ (fun _ _ e => e) (.int _) h.2⟩
theorem rd_I0 {g : Int → Int → Int} : RdOp W (rI0 fun i j => .int (g i j)) (fI0 fun i j => .int (g i j)) := fun M H x y dx dy Q K _ hx hy c h => by
  obtain ⟨i, rfl, h1⟩ := DV.asI_inv h
  obtain ⟨j, rfl, h⟩ := DV.asI_inv h1
  exact ⟨i, j, hx.int_inv, hy.int_inv, c _ _ _ (fun _ _ e => e) (.int _) h⟩
theorem rd_B0 {g : Int → Int → Bool} : RdOp W (rI0 fun i j => .bl (g i j)) (fI0 fun i j => .bl (g i j)) := fun M H x y dx dy Q K _ hx hy c h => by
  obtain ⟨i, rfl, h1⟩ := DV.asI_inv h
  obtain ⟨j, rfl, h⟩ := DV.asI_inv h1
  exact ⟨i, j, hx.int_inv, hy.int_inv, c _ _ _ (fun _ _ e => e) (.bl _) h⟩
def fU (g : Int → Int) : DV → (DV → Prop) → Prop := fun x K => x.asI fun i => K (.int (g i))
theorem rd_U {g : Int → Int} : RdUn W (rU fun i => .int (g i)) (fU g) := fun M H x dx Q K _ hx c h => by
  obtain ⟨i, rfl, h⟩ := DV.asI_inv h
  exact ⟨i, hx.int_inv, c _ _ _ (fun _ _ e => e) (.int _) h⟩
/-- scalars compared -/
def DV.sc : DV → Option V
  | .int i => some (.int i)
  | .bl b => some (.bl b)
  | .str s => some (.str s)
  | .non => some .non
  | _ => none
def fEq : DV → DV → (DV → Prop) → Prop := fun x y K => match x.sc, y.sc with
  | some u, some v => scal u v = true ∧ K (.bl (decide (u = v)))
  | _, _ => False
def fNe : DV → DV → (DV → Prop) → Prop := fun x y K => match x.sc, y.sc with
  | some u, some v => scal u v = true ∧ K (.bl (!decide (u = v)))
  | _, _ => False
theorem Rep.sc_inv {M : Addr → Prop} {H : Hp} {v : V} {d : DV} {u : V} (h : Rep W M H v d) (e : d.sc = some u) : v = u := by
  cases h <;> simp [DV.sc] at e <;> exact e
theorem rd_Eq : RdOp W rEq fEq := fun M H x y dx dy Q K _ hx hy c h => by
  unfold fEq at h
  split at h
  · rename_i u v e1 e2
    rw [hx.sc_inv e1, hy.sc_inv e2]
    exact ⟨h.1, c _ _ _ (fun _ _ e => e) (.bl _) h.2⟩
  · exact h.elim
theorem rd_Ne : RdOp W rNe fNe := fun M H x y dx dy Q K _ hx hy c h => by
  unfold fNe at h
  split at h
  · rename_i u v e1 e2
    rw [hx.sc_inv e1, hy.sc_inv e2]
    exact ⟨h.1, c _ _ _ (fun _ _ e => e) (.bl _) h.2⟩
  · exact h.elim
def DV.isN : DV → Bool
  | .non => true
  | _ => false
def fIsN : DV → DV → (DV → Prop) → Prop := fun x y K => y.isN = true ∧ K (.bl x.isN)
def fNotN : DV → DV → (DV → Prop) → Prop := fun x y K => y.isN = true ∧ K (.bl (!x.isN))
theorem Rep.isN {M : Addr → Prop} {H : Hp} {v : V} {d : DV} (h : Rep W M H v d) : decide (v = .non) = d.isN := by cases h <;> rfl
theorem rd_IsN : RdOp W (fun x y H Q => y = .non ∧ Q (.bl (decide (x = .non))) H) fIsN := fun M H x y dx dy Q K _ hx hy c h => by
  refine ⟨of_decide_eq_true (by rw [hy.isN]; exact h.1), ?_⟩
  rw [hx.isN]
  exact c _ _ _ (fun _ _ e => e) (.bl _) h.2
theorem rd_NotN : RdOp W (fun x y H Q => y = .non ∧ Q (.bl (!decide (x = .non))) H) fNotN := fun M H x y dx dy Q K _ hx hy c h => by
  refine ⟨of_decide_eq_true (by rw [hy.isN]; exact h.1), ?_⟩
  rw [hx.isN]
  exact c _ _ _ (fun _ _ e => e) (.bl _) h.2
/-! index, length and the like -/
theorem atI_rel {M : Addr → Prop} {H : Hp} {vs : List V} {ds : List DV} {i : Int} {d : DV} (h : RepA W M H vs ds) (e : atI ds i = some d) : ∃ v, atI vs i = some v ∧ Rep W M H v d := by
  unfold atI at e ⊢
  rw [h.1]
  cases z : ixN ds.length i with
  | none => rw [z] at e; cases e
  | some j =>
    rw [z] at e
    exact h.get e
def dIxL (a : TDA) (b : TD) : TD := fun δ n K => a δ n fun ds m => b δ m fun y k => y.asI fun i => ∃ z, atI ds i = some z ∧ K z k
def dIxT (a b : TD) : TD := fun δ n K => a δ n fun x m => b δ m fun y k => x.asT fun ds => y.asI fun i => ∃ z, atI ds i = some z ∧ K z k
theorem de_ixL {dQ : TDA} (ha : DQ X W a ta dQ) (hb : DE X W b tb db) (hs : PlainIx b := by exact fun _ _ => rfl) : DE X W (.Subscript a b pos) (tOp (rIxL X.K) ta tb) (dIxL dQ db) :=
  ⟨pe_ix ix_list ha.pe hb.pe hs, fun B Φ M σ H δ n Q K ok c h => ha.tr B Φ M σ H δ n _ _ ok (fun ds m q vs H1 f1 p1 hq nb ra h => hb.tr B Φ M σ H1 δ m _ _ (ok.expr f1 p1) (fun y k u H2 f2 p2 r2 h => by
    obtain ⟨i, rfl, z, e, h⟩ := DV.asI_inv h
    have hq2 : H2 q = some (.lst vs) := f2 _ _ hq fun z => nb (ok.pool q z).1
    obtain ⟨v, e1, r1⟩ := atI_rel (ra.mono (ok.frM f2)) e
    exact ⟨q, vs, i, v, rfl, r2.int_inv, SqL.of hq2, e1, c _ _ _ _ (f1.trans f2) p2 r1 h⟩) h) h⟩
theorem de_ixT (ha : DE X W a ta da) (hb : DE X W b tb db) (hs : PlainIx b := by exact fun _ _ => rfl) : DE X W (.Subscript a b pos) (tOp (rIxT X.K) ta tb) (dIxT da db) :=
  ⟨pe_ix ix_tup ha.pe hb.pe hs, fun B Φ M σ H δ n Q K ok c h => ha.tr B Φ M σ H δ n _ _ ok (fun x m v H1 f1 p1 ra h => hb.tr B Φ M σ H1 δ m _ _ (ok.expr f1 p1) (fun y k u H2 f2 p2 r2 h => by
    obtain ⟨ds, rfl, h1⟩ := DV.asT_inv h
    obtain ⟨i, rfl, z, e, h⟩ := DV.asI_inv h1
    obtain ⟨q, vs, rfl, hq, nq, r3⟩ := (ra.mono (ok.frM f2)).tup_inv
    obtain ⟨v, e1, r1⟩ := atI_rel r3 e
    exact ⟨q, vs, i, v, rfl, r2.int_inv, SqT.of hq, e1, c _ _ _ _ (f1.trans f2) p2 r1 h⟩) h) h⟩
/-- a built-in over one list -/
def RdQ (W : Wo) (r : List V → Hp → VK → Prop) (f : List DV → (DV → Prop) → Prop) : Prop := ∀ (M : Addr → Prop) (H : Hp) (q : Addr) (vs : List V) (ds : List DV) (Q : VK) (K : DV → Prop), (∀ a, M a → IsL H a) → H q = some (.lst vs) → RepA W M H vs ds →
  (∀ z v H', Same H H' → Rep W M H' v z → K z → Q v H') → f ds K → r [.ref q] H Q
/-- .. that gives a new list -/
def RdQF (W : Wo) (r : List V → Hp → VK → Prop) (f : List DV → (List DV → Prop) → Prop) : Prop := ∀ (M : Addr → Prop) (H : Hp) (q : Addr) (vs : List V) (ds : List DV) (Q : VK) (K : List DV → Prop), (∀ a, M a → IsL H a) → H q = some (.lst vs) → RepA W M H vs ds →
  (∀ zs us p, H p = none → RepA W M H us zs → K zs → Q (.ref p) (upd H p (.lst us))) → f ds K → r [.ref q] H Q
/-- a built-in over values -/
def RdC (W : Wo) (r : List V → Hp → VK → Prop) (f : List DV → (DV → Prop) → Prop) : Prop := ∀ (M : Addr → Prop) (H : Hp) (vs : List V) (ds : List DV) (Q : VK) (K : DV → Prop), (∀ a, M a → IsL H a) → RepA W M H vs ds →
  (∀ z v H', Same H H' → Rep W M H' v z → K z → Q v H') → f ds K → r vs H Q
def dCQ (f : List DV → (DV → Prop) → Prop) (a : TDA) : TD := fun δ n K => a δ n fun ds m => f ds fun z => K z m
def dCQF (f : List DV → (List DV → Prop) → Prop) (a : TDA) : TDA := fun δ n K => a δ n fun ds m => f ds fun z => K z m
theorem trE_Q1 {r : List V → Hp → VK → Prop} {f : List DV → (DV → Prop) → Prop} (hr : RdQ W r f) (ha : TrQ W ta dA) : TrE W (tCB r (tCons ta tNil)) (dCQ f dA) := fun B Φ M σ H δ n Q K ok c h =>
  ha B Φ M σ H δ n _ _ ok (fun ds m q vs H1 f1 p1 hq nb ra h => hr M H1 q vs ds Q _ (fun a z => dom_fr f1 p1 (ok.dom a z)) hq ra (fun z v H' s r1 k => c _ _ _ _ (f1.trans (.of s)) (pl_same p1 s) r1 k) h) h
theorem trF_Q1 {r : List V → Hp → VK → Prop} {f : List DV → (List DV → Prop) → Prop} (hr : RdQF W r f) (ha : TrQ W ta dA) : TrF W (tCB r (tCons ta tNil)) (dCQF f dA) := fun B Φ M σ H δ n Q K ok c h =>
  ha B Φ M σ H δ n _ _ ok (fun ds m q vs H1 f1 p1 hq nb ra h => hr M H1 q vs ds Q _ (fun a z => dom_fr f1 p1 (ok.dom a z)) hq ra
    (fun zs us p np r1 k => c _ _ _ _ _ (f1.upd (.inl (none_fr f1 p1 np))) (pl_new p1 np) (none_fr f1 p1 np) upd_same (repA_new r1 np) k) h) h
theorem trE_C {r : List V → Hp → VK → Prop} {f : List DV → (DV → Prop) → Prop} (hr : RdC W r f) (ha : TrA W tA dA) : TrE W (tCB r tA) (dCQ f dA) := fun B Φ M σ H δ n Q K ok c h =>
  ha B Φ M σ H δ n _ _ ok (fun ds m vs H1 f1 p1 ra h => hr M H1 vs ds Q _ (fun a z => dom_fr f1 p1 (ok.dom a z)) ra (fun z v H' s r1 k => c _ _ _ _ (f1.trans (.of s)) (pl_same p1 s) r1 k) h) h
section
variable {id x : Str} {ids : String} {r : List V → Hp → VK → Prop} {p : Pos}
theorem de_bQ {f : List DV → (DV → Prop) → Prop} (hc : CallR X (.builtin ids) r) (hg : Gl X x) (hm : X.mg x = none) (hv : bootBuiltins x = some (.builtin ids)) (hr : RdQ W r f) (ha : DQ X W a ta dA) (hn : x ≠ "__name__" := by decide) (hdb : (x == ("__debug__" : Str)) = false := by decide)
    (hs : starEach [a] X.env = (false, eval a X.env) :: starEach [] X.env := by rfl) (hpl : (backTo pos (starEach [] X.env)).any (·.1) = false := by rfl) : DE X W (.Call (.Name x p) [a] [] pos) (tCB r (tCons ta tNil)) (dCQ f dA) :=
  ⟨pe_callB hc hg hm hv (pa_cons ha.pe pa_nil hs) hn hdb hs hpl, trE_Q1 hr ha.tr⟩
theorem df_bQ {f : List DV → (List DV → Prop) → Prop} (hc : CallR X (.builtin ids) r) (hg : Gl X x) (hm : X.mg x = none) (hv : bootBuiltins x = some (.builtin ids)) (hr : RdQF W r f) (ha : DQ X W a ta dA) (hn : x ≠ "__name__" := by decide) (hdb : (x == ("__debug__" : Str)) = false := by decide)
    (hs : starEach [a] X.env = (false, eval a X.env) :: starEach [] X.env := by rfl) (hpl : (backTo pos (starEach [] X.env)).any (·.1) = false := by rfl) : DF X W (.Call (.Name x p) [a] [] pos) (tCB r (tCons ta tNil)) (dCQF f dA) :=
  ⟨pe_callB hc hg hm hv (pa_cons ha.pe pa_nil hs) hn hdb hs hpl, trF_Q1 hr ha.tr⟩
theorem df_tQ {f : List DV → (List DV → Prop) → Prop} (hc : CallR X (.type ids) r) (hg : Gl X x) (hm : X.mg x = none) (hv : bootBuiltins x = some (.type ids)) (hr : RdQF W r f) (ha : DQ X W a ta dA) (hn : x ≠ "__name__" := by decide) (hdb : (x == ("__debug__" : Str)) = false := by decide)
    (hs : starEach [a] X.env = (false, eval a X.env) :: starEach [] X.env := by rfl) (hpl : (backTo pos (starEach [] X.env)).any (·.1) = false := by rfl) : DF X W (.Call (.Name x p) [a] [] pos) (tCB r (tCons ta tNil)) (dCQF f dA) :=
  ⟨pe_callTy hc hg hm hv (pa_cons ha.pe pa_nil hs) hn hdb hs hpl, trF_Q1 hr ha.tr⟩
theorem de_b {f : List DV → (DV → Prop) → Prop} (hc : CallR X (.builtin ids) r) (hg : Gl X x) (hm : X.mg x = none) (hv : bootBuiltins x = some (.builtin ids)) (hr : RdC W r f) (ha : DA X W (a :: es) tA dA) (hn : x ≠ "__name__" := by decide) (hdb : (x == ("__debug__" : Str)) = false := by decide)
    (hs : starEach (a :: es) X.env = (false, eval a X.env) :: starEach es X.env := by rfl) (hpl : (backTo pos (starEach es X.env)).any (·.1) = false := by rfl) : DE X W (.Call (.Name x p) (a :: es) [] pos) (tCB r tA) (dCQ f dA) :=
  ⟨pe_callB hc hg hm hv ha.pa hn hdb hs hpl, trE_C hr ha.tr⟩
theorem de_t {f : List DV → (DV → Prop) → Prop} (hc : CallR X (.type ids) r) (hg : Gl X x) (hm : X.mg x = none) (hv : bootBuiltins x = some (.type ids)) (hr : RdC W r f) (ha : DA X W (a :: es) tA dA) (hn : x ≠ "__name__" := by decide) (hdb : (x == ("__debug__" : Str)) = false := by decide)
    (hs : starEach (a :: es) X.env = (false, eval a X.env) :: starEach es X.env := by rfl) (hpl : (backTo pos (starEach es X.env)).any (·.1) = false := by rfl) : DE X W (.Call (.Name x p) (a :: es) [] pos) (tCB r tA) (dCQ f dA) :=
  ⟨pe_callTy hc hg hm hv ha.pa hn hdb hs hpl, trE_C hr ha.tr⟩
end
def fLen : List DV → (DV → Prop) → Prop := fun ds K => K (.int (ds.length : Nat))
theorem rd_len {K0 : PySem.W.Frag} : RdQ W (fun xs H Q => ∃ p ys, xs = [.ref p] ∧ (SqL K0 H p ys ∨ SqT K0 H p ys) ∧ Q (.int ys.length) H) fLen := fun M H q vs ds Q K _ hq ra c h =>
  ⟨q, vs, rfl, .inl (SqL.of hq), by rw [ra.1]; exact c _ _ _ (fun _ _ e => e) (.int _) h⟩
def fLenT : List DV → (DV → Prop) → Prop := fun ds K => match ds with
  | [.tup xs] => K (.int (xs.length : Nat))
  | _ => False
def fList : List DV → (List DV → Prop) → Prop := fun ds K => K ds
theorem rd_list {K0 : PySem.W.Frag} : RdQF W (fun xs H Q => ∃ p ys, xs = [.ref p] ∧ (SqL K0 H p ys ∨ SqT K0 H p ys) ∧ ∀ l, H l = none → Q (.ref l) (upd H l (.lst ys))) fList := fun M H q vs ds Q K _ hq ra c h =>
  ⟨q, vs, rfl, .inl (SqL.of hq), fun l nl => c _ _ _ nl ra h⟩
/-- a list of ints -/
def DV.intsOf (ds : List DV) (k : List Int → Prop) : Prop := ∃ xs : List Int, ds = xs.map DV.int ∧ k xs
def fSum : List DV → (DV → Prop) → Prop := fun ds K => DV.intsOf ds fun xs => K (.int xs.sum)
theorem rd_sum {K0 : PySem.W.Frag} : RdQ W (rSum K0) fSum := fun M H q vs ds Q K _ hq ra c h => by
  obtain ⟨xs, rfl, h⟩ := h
  rw [ra.ints] at hq
  exact ⟨q, xs, rfl, SqL.of hq, c _ _ _ (fun _ _ e => e) (.int _) h⟩
def fMax : List DV → (DV → Prop) → Prop := fun ds K => DV.intsOf ds fun xs => 0 < xs.length ∧ ∀ m, m ∈ xs → (∀ y, y ∈ xs → y ≤ m) → K (.int m)
def fMin : List DV → (DV → Prop) → Prop := fun ds K => DV.intsOf ds fun xs => 0 < xs.length ∧ ∀ m, m ∈ xs → (∀ y, y ∈ xs → m ≤ y) → K (.int m)
theorem rd_max {K0 : PySem.W.Frag} : RdQ W (rMax K0) fMax := fun M H q vs ds Q K _ hq ra c h => by
  obtain ⟨xs, rfl, l, h⟩ := h
  rw [ra.ints] at hq
  exact ⟨q, xs, rfl, SqL.of hq, l, fun m h1 h2 => c _ _ _ (fun _ _ e => e) (.int _) (h m h1 h2)⟩
theorem rd_min {K0 : PySem.W.Frag} : RdQ W (rMin K0) fMin := fun M H q vs ds Q K _ hq ra c h => by
  obtain ⟨xs, rfl, l, h⟩ := h
  rw [ra.ints] at hq
  exact ⟨q, xs, rfl, SqL.of hq, l, fun m h1 h2 => c _ _ _ (fun _ _ e => e) (.int _) (h m h1 h2)⟩
def fSorted : List DV → (List DV → Prop) → Prop := fun ds K => DV.intsOf ds fun xs => xs.length < 64 ∧ ∀ ys : List Int, ys.Perm xs → ys.Pairwise (· ≤ ·) → K (ys.map DV.int)
theorem rd_sorted {K0 : PySem.W.Frag} : RdQF W (rSorted K0) fSorted := fun M H q vs ds Q K _ hq ra c h => by
  obtain ⟨xs, rfl, l, h⟩ := h
  rw [ra.ints] at hq
  exact ⟨q, xs, rfl, SqL.of hq, l, fun ys p h1 h2 np => c _ _ _ np (repA_ints ys) (h ys h1 h2)⟩
def fC1 (g : Int → Int) : List DV → (DV → Prop) → Prop := fun ds K => match ds with
  | [x] => x.asI fun i => K (.int (g i))
  | _ => False
def fC2 (g : Int → Int → Int) : List DV → (DV → Prop) → Prop := fun ds K => match ds with
  | [x, y] => x.asI fun i => y.asI fun j => K (.int (g i j))
  | _ => False
theorem rd_C1 {g : Int → Int} : RdC W (fun xs H Q => ∃ i, xs = [.int i] ∧ Q (.int (g i)) H) (fC1 g) := fun M H vs ds Q K _ ra c h => by
  unfold fC1 at h
  split at h
  · obtain ⟨i, rfl, h⟩ := DV.asI_inv h
    obtain ⟨v, rfl, r⟩ := ra.one_inv
    exact ⟨i, by rw [r.int_inv], c _ _ _ (fun _ _ e => e) (.int _) h⟩
  · exact h.elim
theorem rd_C2 {g : Int → Int → Int} : RdC W (fun xs H Q => ∃ i j, xs = [.int i, .int j] ∧ Q (.int (g i j)) H) (fC2 g) := fun M H vs ds Q K _ ra c h => by
  unfold fC2 at h
  split at h
  · obtain ⟨i, rfl, h1⟩ := DV.asI_inv h
    obtain ⟨j, rfl, h⟩ := DV.asI_inv h1
    obtain ⟨v, us, rfl, r, rs⟩ := ra.cons_inv
    obtain ⟨u, rfl, r2⟩ := rs.one_inv
    exact ⟨i, j, by rw [r.int_inv, r2.int_inv], c _ _ _ (fun _ _ e => e) (.int _) h⟩
  · exact h.elim
def fInt : List DV → (DV → Prop) → Prop := fun ds K => match ds with
  | [.int i] => K (.int i)
  | [.bl k] => K (.int (if k then 1 else 0))
  | _ => False
theorem rd_int : RdC W (fun xs H Q => (∃ i, xs = [.int i] ∧ Q (.int i) H) ∨ ∃ k, xs = [.bl k] ∧ Q (.int (if k then 1 else 0)) H) fInt := fun M H vs ds Q K _ ra c h => by
  unfold fInt at h
  split at h
  · obtain ⟨v, rfl, r⟩ := ra.one_inv
    exact .inl ⟨_, by rw [r.int_inv], c _ _ _ (fun _ _ e => e) (.int _) h⟩
  · obtain ⟨v, rfl, r⟩ := ra.one_inv
    exact .inr ⟨_, by rw [r.bl_inv], c _ _ _ (fun _ _ e => e) (.int _) h⟩
  · exact h.elim
/-! list + list, list * int, slices -/
def dCat (a b : TDA) : TDA := fun δ n K => a δ n fun xs m => b δ m fun ys k => xs.length + ys.length ≤ 100000 ∧ K (xs ++ ys) k
def dRep (a : TDA) (b : TD) : TDA := fun δ n K => a δ n fun xs m => b δ m fun y k => y.asI fun i => -(2 ^ 63) ≤ i ∧ i < 2 ^ 63 ∧ xs.length * i.toNat ≤ 100000 ∧ K (List.replicate i.toNat xs).flatten k
theorem le_size2 {n : Nat} (h : n ≤ 100000) : n ≤ sizeLine := Nat.le_trans h (by decide)
theorem df_cat {qa qb : TDA} (ha : DQ X W a ta qa) (hb : DQ X W b tb qb) : DF X W (.BinOp a .Add b pos) (tOp rCat ta tb) (dCat qa qb) :=
  ⟨pe_op op_cat ha.pe hb.pe, fun B Φ M σ H δ n Q K ok c h => ha.tr B Φ M σ H δ n _ _ ok (fun xs m q vs H1 f1 p1 hq nb ra h => hb.tr B Φ M σ H1 δ m _ _ (ok.expr f1 p1) (fun ys k q2 us H2 f2 p2 hq2 nb2 rb h => by
    have f12 := f1.trans f2
    have hq1 : H2 q = some (.lst vs) := f2 _ _ hq fun z => nb (ok.pool q z).1
    refine ⟨q, q2, vs, us, rfl, rfl, hq1, hq2, by rw [ra.1, rb.1]; exact le_size2 h.1, fun p np => ?_⟩
    exact c _ _ _ _ _ (f12.upd (.inl (none_fr f12 p2 np))) (pl_new p2 np) (none_fr f12 p2 np) upd_same (repA_new ((ra.mono (ok.frM f2)).append rb) np) h.2) h) h⟩
theorem df_rep {qa : TDA} (ha : DQ X W a ta qa) (hb : DE X W b tb db) : DF X W (.BinOp a .Mult b pos) (tOp rRep ta tb) (dRep qa db) :=
  ⟨pe_op op_rep ha.pe hb.pe, fun B Φ M σ H δ n Q K ok c h => ha.tr B Φ M σ H δ n _ _ ok (fun xs m q vs H1 f1 p1 hq nb ra h => hb.tr B Φ M σ H1 δ m _ _ (ok.expr f1 p1) (fun y k u H2 f2 p2 r2 h => by
    obtain ⟨i, rfl, h1, h2, h3, h⟩ := DV.asI_inv h
    have f12 := f1.trans f2
    have hq1 : H2 q = some (.lst vs) := f2 _ _ hq fun z => nb (ok.pool q z).1
    refine ⟨q, i, vs, rfl, r2.int_inv, hq1, h1, h2, by rw [ra.1]; exact le_size2 h3, fun p np => ?_⟩
    exact c _ _ _ _ _ (f12.upd (.inl (none_fr f12 p2 np))) (pl_new p2 np) (none_fr f12 p2 np) upd_same (repA_new ((ra.mono (ok.frM f2)).rep _) np) h) h) h⟩
abbrev TDO := En → Nat → (Option Int → Nat → Prop) → Prop
def TrO (W : Wo) (t : TO) (d : TDO) : Prop := ∀ (B : Addr → Prop) (Φ : WPhi) (M : Addr → Prop) (σ : L2.St) (H : Hp) (δ : En) (n : Nat) (Q : Option Int → Hp → Prop) (K : Option Int → Nat → Prop), Ok W B Φ M σ H δ n →
  (∀ b m H', FrS (pl W) H H' → Pl W H' m → K b m → Q b H') → d δ n K → t σ H Q
structure DO (X : Cx) (W : Wo) (e : Option Expr) (t : TO) (d : TDO) : Prop where
  po : PO X e t
  tr : TrO W t d
def dNoPart : TDO := fun _ n K => K none n
def dPart (d : TD) : TDO := fun δ n K => d δ n fun x m => x.asI fun i => K (some i) m
theorem do_none : DO X W none tNoPart dNoPart := ⟨po_none, fun B Φ M σ H δ n Q K ok c h => c _ _ _ .refl ok.plOf h⟩
theorem do_some (h : DE X W e t d) : DO X W (some e) (tPart t) (dPart d) := ⟨po_some h.pe, fun B Φ M σ H δ n Q K ok c q => h.tr B Φ M σ H δ n _ _ ok (fun r m v H' f p ra k => by
  obtain ⟨i, rfl, k⟩ := DV.asI_inv k
  exact ⟨i, ra.int_inv, c _ _ _ f p k⟩) q⟩
def cutD (xs : List DV) (lo hi : Option Int) : List DV := (xs.drop (HT.sIx xs.length 0 lo)).take (HT.sIx xs.length xs.length hi - HT.sIx xs.length 0 lo)
def dSl (a : TDA) (l h : TDO) : TDA := fun δ n K => a δ n fun xs m => l δ m fun lo k => h δ k fun hi j => K (cutD xs lo hi) j
theorem df_sl {lo hi : Option Expr} {tl th : TO} {dl dh : TDO} {p2 : Pos} (ha : DQ X W a ta dA) (hl : DO X W lo tl dl) (hh : DO X W hi th dh) : DF X W (.Subscript a (.Slice lo hi none p2) pos) (tSl (rSlL X.K) ta tl th) (dSl dA dl dh) :=
  ⟨pe_slice sl_list ha.pe hl.po hh.po, fun B Φ M σ H δ n Q K ok c h => ha.tr B Φ M σ H δ n _ _ ok (fun xs m q vs H1 f1 p1 hq nb ra h => hl.tr B Φ M σ H1 δ m _ _ (ok.expr f1 p1) (fun lo k H2 f2 p2 h =>
    hh.tr B Φ M σ H2 δ k _ _ ((ok.expr f1 p1).expr f2 p2) (fun hi j H3 f3 p3 h => by
      have f23 := f2.trans f3
      have f13 := f1.trans f23
      have hq1 : H3 q = some (.lst vs) := f23 _ _ hq fun z => nb (ok.pool q z).1
      refine ⟨q, vs, rfl, SqL.of hq1, fun p np => ?_⟩
      have r3 := ra.mono (ok.frM f23)
      refine c _ _ _ _ _ (f13.upd (.inl (none_fr f13 p3 np))) (pl_new p3 np) (none_fr f13 p3 np) upd_same (repA_new ?_ np) h
      unfold cutV cutD
      rw [r3.1]
      exact (r3.drop _).take _) h) h) h⟩
def dRev (a : TDA) : TDA := fun δ n K => a δ n fun xs m => K xs.reverse m
theorem df_rev {k : Nat} {p1 p2 p3 : Pos} (ha : DQ X W a ta dA) : DF X W (.Subscript a (.Slice none none (some (.UnaryOp .USub (.Constant (.int 1) k p1) p2)) p3) pos) (tRevL X.K ta) (dRev dA) :=
  ⟨pe_revL ha.pe, fun B Φ M σ H δ n Q K ok c h => ha.tr B Φ M σ H δ n _ _ ok (fun xs m q vs H1 f1 p1 hq nb ra h =>
    ⟨q, vs, rfl, SqL.of hq, fun p np => c _ _ _ _ _ (f1.upd (.inl (none_fr f1 p1 np))) (pl_new p1 np) (none_fr f1 p1 np) upd_same (repA_new ra.reverse np) h⟩) h⟩
/-! tests -/
def dB (d : TD) : TDT := fun δ n K => d δ n fun x m => x.asB fun b => K b m
def dAnd (a b : TDT) : TDT := fun δ n K => a δ n fun x m => (x = true → b δ m K) ∧ (x = false → K false m)
def dOr (a b : TDT) : TDT := fun δ n K => a δ n fun x m => (x = true → K true m) ∧ (x = false → b δ m K)
def dNot (a : TDT) : TDT := fun δ n K => a δ n fun x m => K (!x) m
def dYes : TDT := fun _ n K => K true n
variable {t1 t2 : TT} {d1 d2 : TDT}
theorem trT_B (h : TrE W t d) : TrT W (tB t) (dB d) := fun B Φ M σ H δ n Q K ok c q => h B Φ M σ H δ n _ _ ok (fun r m v H' f p ra k => by
  obtain ⟨b, rfl, k⟩ := DV.asB_inv k
  exact ⟨b, ra.bl_inv, c _ _ _ f p k⟩) q
theorem dt_val (h : DE X W e t d) (he : ∀ whole, isTrue e X.env whole = (do let v ← whole; standAt e.pos; holding [v] (truthy v)) := by intro _; rfl) : DT X W e (tB t) (dB d) := ⟨pt_val h.pe he, trT_B h.tr⟩
theorem dt_cmp {op : CmpOp} {r : R2} {f : DV → DV → (DV → Prop) → Prop} (ho : OpR X (compareOp op) r) (hr : RdOp W r f) (ha : DE X W a ta da) (hb : DE X W b tb db) (hm : behindInMarks op b = false := by exact nomark _) : DT X W (.Compare a [op] [b] pos) (tTest (tOp r ta tb)) (dB (dOp f da db)) :=
  ⟨pt_cmpR ho ha.pe hb.pe hm, trT_B (trE_op hr ha.tr hb.tr)⟩
theorem ite_split {c : Bool} {A A' : Prop} (h1 : c = true → A) (h2 : c = false → A') : if c = true then A else A' := by cases c <;> simp_all
theorem trT_and (h1 : TrT W t1 d1) (h2 : TrT W t2 d2) : TrT W (tAnd t1 t2) (dAnd d1 d2) := fun B Φ M σ H δ n Q K ok c q => h1 B Φ M σ H δ n _ _ ok (fun b m H' f p k =>
  ite_split (fun z => h2 B Φ M σ H' δ m _ _ (ok.expr f p) (fun b2 m2 H2 f2 p2 k2 => c _ _ _ (f.trans f2) p2 k2) (k.1 z)) (fun z => c _ _ _ f p (k.2 z))) q
theorem trT_or (h1 : TrT W t1 d1) (h2 : TrT W t2 d2) : TrT W (tOr t1 t2) (dOr d1 d2) := fun B Φ M σ H δ n Q K ok c q => h1 B Φ M σ H δ n _ _ ok (fun b m H' f p k =>
  ite_split (fun z => c _ _ _ f p (k.1 z)) (fun z => h2 B Φ M σ H' δ m _ _ (ok.expr f p) (fun b2 m2 H2 f2 p2 k2 => c _ _ _ (f.trans f2) p2 k2) (k.2 z))) q
variable {rest : List Expr}
theorem dw_and1 (ha : DT X W a t1 d1) : DW X W (.BoolOp .And [a] pos) t1 d1 := ⟨pw_and1 ha.pt, ha.tr⟩
theorem dw_or1 (ha : DT X W a t1 d1) : DW X W (.BoolOp .Or [a] pos) t1 d1 := ⟨pw_or1 ha.pt, ha.tr⟩
theorem dw_and (ha : DT X W a t1 d1) (hb : DW X W (.BoolOp .And (b :: rest) pos) t2 d2) : DW X W (.BoolOp .And (a :: b :: rest) pos) (tAnd t1 t2) (dAnd d1 d2) := ⟨pw_and ha.pt hb.pw, trT_and ha.tr hb.tr⟩
theorem dw_or (ha : DT X W a t1 d1) (hb : DW X W (.BoolOp .Or (b :: rest) pos) t2 d2) : DW X W (.BoolOp .Or (a :: b :: rest) pos) (tOr t1 t2) (dOr d1 d2) := ⟨pw_or ha.pt hb.pw, trT_or ha.tr hb.tr⟩
theorem DW.dt (h : DW X W e t1 d1) : DT X W e t1 d1 := ⟨h.pw.pt, h.tr⟩
theorem dt_not (h : DT X W a t1 d1) : DT X W (.UnaryOp .Not a pos) (tNot t1) (dNot d1) := ⟨pt_not h.pt, fun B Φ M σ H δ n Q K ok c q => h.tr B Φ M σ H δ n _ _ ok (fun b m H' f p k => c _ _ _ f p k) q⟩
def dAndV (a b : TD) : TD := fun δ n K => a δ n fun x m => x.asB fun c => (c = true → b δ m K) ∧ (c = false → K (.bl false) m)
def dOrV (a b : TD) : TD := fun δ n K => a δ n fun x m => x.asB fun c => (c = true → K (.bl true) m) ∧ (c = false → b δ m K)
def dNotV (a : TD) : TD := fun δ n K => a δ n fun x m => x.asB fun c => K (.bl (!c)) m
theorem de_one {op} (h : DE X W a ta da) : DE X W (.BoolOp op [a] pos) ta da := ⟨pe_one h.pe, h.tr⟩
theorem de_and (ha : DE X W a ta da) (hb : DE X W (.BoolOp .And (b :: rest) pos) tb db) : DE X W (.BoolOp .And (a :: b :: rest) pos) (tAndV ta tb) (dAndV da db) :=
  ⟨pe_and ha.pe hb.pe, fun B Φ M σ H δ n Q K ok c q => ha.tr B Φ M σ H δ n _ _ ok (fun x m v H' f p r k => by
    obtain ⟨b, rfl, k⟩ := DV.asB_inv k
    exact ⟨b, r.bl_inv, ite_split (fun z => hb.tr B Φ M σ H' δ m _ _ (ok.expr f p) (fun x2 m2 v2 H2 f2 p2 r2 k2 => c _ _ _ _ (f.trans f2) p2 r2 k2) (k.1 z)) (fun z => c _ _ _ _ f p (.bl _) (k.2 z))⟩) q⟩
theorem de_or (ha : DE X W a ta da) (hb : DE X W (.BoolOp .Or (b :: rest) pos) tb db) : DE X W (.BoolOp .Or (a :: b :: rest) pos) (tOrV ta tb) (dOrV da db) :=
  ⟨pe_or ha.pe hb.pe, fun B Φ M σ H δ n Q K ok c q => ha.tr B Φ M σ H δ n _ _ ok (fun x m v H' f p r k => by
    obtain ⟨b, rfl, k⟩ := DV.asB_inv k
    exact ⟨b, r.bl_inv, ite_split (fun z => c _ _ _ _ f p (.bl _) (k.1 z)) (fun z => hb.tr B Φ M σ H' δ m _ _ (ok.expr f p) (fun x2 m2 v2 H2 f2 p2 r2 k2 => c _ _ _ _ (f.trans f2) p2 r2 k2) (k.2 z))⟩) q⟩
theorem de_not (ha : DE X W a ta da) : DE X W (.UnaryOp .Not a pos) (tNotV ta) (dNotV da) :=
  ⟨pe_not ha.pe, fun B Φ M σ H δ n Q K ok c q => ha.tr B Φ M σ H δ n _ _ ok (fun x m v H' f p r k => by
    obtain ⟨b, rfl, k⟩ := DV.asB_inv k
    exact ⟨b, r.bl_inv, c _ _ _ _ f p (.bl _) k⟩) q⟩
def dIf (c : TDT) (a b : TD) : TD := fun δ n K => c δ n fun x m => (x = true → a δ m K) ∧ (x = false → b δ m K)
theorem de_if {c : Expr} (hc : DT X W c t1 d1) (ha : DE X W a ta da) (hb : DE X W b tb db) : DE X W (.IfExp c a b pos) (tIf t1 ta tb) (dIf d1 da db) :=
  ⟨pe_ifExp hc.pt ha.pe hb.pe, fun B Φ M σ H δ n Q K ok c q => hc.tr B Φ M σ H δ n _ _ ok (fun x m H' f p k =>
    ite_split (fun z => ha.tr B Φ M σ H' δ m _ _ (ok.expr f p) (fun x2 m2 v2 H2 f2 p2 r2 k2 => c _ _ _ _ (f.trans f2) p2 r2 k2) (k.1 z)) (fun z => hb.tr B Φ M σ H' δ m _ _ (ok.expr f p) (fun x2 m2 v2 H2 f2 p2 r2 k2 => c _ _ _ _ (f.trans f2) p2 r2 k2) (k.2 z))) q⟩
/-! repr -/
def fRepr : List DV → (DV → Prop) → Prop := fun ds K => match ds with
  | [.lst xs] => (∃ n k, Rp (DV.lst xs).py n k ∧ k ≤ 60 ∧ n ≤ 300000) ∧ (DV.lst xs).pu = true ∧ K (.str (DV.lst xs).py.shown)
  | [.tup xs] => (∃ n k, Rp (DV.tup xs).py n k ∧ k ≤ 60 ∧ n ≤ 300000) ∧ (DV.tup xs).pu = true ∧ K (.str (DV.tup xs).py.shown)
  | _ => False
theorem rd_repr {K0 : PySem.W.Frag} : RdC W (rRep2 K0) fRepr := fun M H vs ds Q K _ ra c h => by
  unfold fRepr at h
  split at h
  · obtain ⟨⟨n, k, h1, h2, h3⟩, h4, h⟩ := h
    obtain ⟨v, rfl, r⟩ := ra.one_inv
    obtain ⟨q, us, rfl, _⟩ := r.lst_inv
    exact ⟨q, _, n, k, rfl, r.dp h4, h1, h2, h3, c _ _ _ (fun _ _ e => e) (.str _) h⟩
  · obtain ⟨⟨n, k, h1, h2, h3⟩, h4, h⟩ := h
    obtain ⟨v, rfl, r⟩ := ra.one_inv
    obtain ⟨q, us, rfl, _⟩ := r.tup_inv
    exact ⟨q, _, n, k, rfl, r.dp h4, h1, h2, h3, c _ _ _ (fun _ _ e => e) (.str _) h⟩
  · exact h.elim
end

/-! ### readings without a heap: targets, statements, loops -/
structure DEn where
  nx : En → Nat → Prop
  rt : DV → Nat → Prop
  bk : En → Nat → Prop := fun _ _ => False
  ct : En → Nat → Prop := fun _ _ => False
abbrev TDS := DEn → En → Nat → Prop
structure Sim (W : Wo) (B : Addr → Prop) (Φ : WPhi) (DD : DEn) (D : Ends) : Prop where
  nx : ∀ M σ H δ n, Ok W B Φ M σ H δ n → DD.nx δ n → D.nx σ H
  rt : ∀ M H v r n, Φ M H → (∀ a, B a → M a) → Pl W H n → Rep W M H v r → DD.rt r n → D.rt v H
  bk : ∀ M σ H δ n, Ok W B Φ M σ H δ n → DD.bk δ n → D.bk σ H
  ct : ∀ M σ H δ n, Ok W B Φ M σ H δ n → DD.ct δ n → D.ct σ H
def TrS (W : Wo) (t : TS) (d : TDS) : Prop := ∀ (B : Addr → Prop) (Φ : WPhi) (M : Addr → Prop) (σ : L2.St) (H : Hp) (δ : En) (n : Nat) (D : Ends) (DD : DEn), Ok W B Φ M σ H δ n → Sim W B Φ DD D → d DD δ n → t D σ H
structure DS (X : Cx) (W : Wo) (s : Stmt) (t : TS) (d : TDS) : Prop where
  ps : PS X s t
  tr : TrS W t d
structure DSs (X : Cx) (W : Wo) (s : List Stmt) (t : TS) (d : TDS) : Prop where
  pss : PSs X s t
  tr : TrS W t d
abbrev TDG := DV → En → (En → Prop) → Prop
abbrev TDGs := List DV → En → (En → Prop) → Prop
def TrG (W : Wo) (vs : List Nat) (g : TG) (d : TDG) : Prop := ∀ (B : Addr → Prop) (Φ : WPhi) (M : Addr → Prop) (σ : L2.St) (H : Hp) (δ : En) (n : Nat) (v : V) (r : DV) (Q : L2.St → Hp → Prop) (K : En → Prop), Ok W B Φ M σ H δ n → Rep W M H v r →
  (∀ σ' δ', Ok W B Φ M σ' H δ' n → wipe σ' vs = wipe σ vs → K δ' → Q σ' H) → d r δ K → g v σ H Q
def TrGs (W : Wo) (vs : List Nat) (g : TGs) (d : TDGs) : Prop := ∀ (B : Addr → Prop) (Φ : WPhi) (M : Addr → Prop) (σ : L2.St) (H : Hp) (δ : En) (n : Nat) (v : List V) (r : List DV) (Q : L2.St → Hp → Prop) (K : En → Prop), Ok W B Φ M σ H δ n → RepA W M H v r →
  (∀ σ' δ', Ok W B Φ M σ' H δ' n → wipe σ' vs = wipe σ vs → K δ' → Q σ' H) → d r δ K → g v σ H Q
structure DG (X : Cx) (W : Wo) (vs : List Nat) (e : Expr) (g : TG) (d : TDG) : Prop where
  pg : PG X e g
  tr : TrG W vs g d
structure DGs (X : Cx) (W : Wo) (vs : List Nat) (e : List Expr) (g : TGs) (d : TDGs) : Prop where
  pgs : PGs X e g
  tr : TrGs W vs g d
def dgN (i : Nat) : TDG := fun r δ K => K (δ.set i (some (.dat r)))
def dgT (d : TDGs) : TDG := fun r δ K => r.asT fun xs => d xs δ K
def dgNil : TDGs := fun rs δ K => match rs with
  | [] => K δ
  | _ => False
def dgCons (a : TDG) (b : TDGs) : TDGs := fun rs δ K => match rs with
  | r :: rs => a r δ fun δ2 => b rs δ2 K
  | _ => False
theorem wipe_set {σ : L2.St} {i : Nat} {x : Option V} : ∀ {vs : List Nat}, i ∈ vs → wipe (σ.set i x) vs = wipe σ vs
  | v :: vs, h => by
    unfold wipe
    by_cases e : i ∈ vs
    · rw [wipe_set e]
    · have e2 : i = v := by
        rcases List.mem_cons.mp h with h | h
        · exact h
        · exact absurd h e
      subst e2
      have : ∀ {ws : List Nat}, i ∉ ws → wipe (σ.set i x) ws = (wipe σ ws).set i x := by
        intro ws hw
        induction ws with
        | nil => rfl
        | cons w ws ih =>
          unfold wipe
          rw [ih fun z => hw (List.mem_cons_of_mem _ z)]
          rw [List.set_comm]
          intro z
          exact hw (by rw [z]; exact List.mem_cons_self)
      rw [this e, List.set_set]
section
variable {X : Cx} {W : Wo} {e : Expr} {es : List Expr} {vs : List Nat} {g : TG} {gs : TGs} {dg : TDG} {dgs : TDGs} {pos : Pos}
theorem trG_name {i : Nat} (hi : i ∈ vs) : TrG W vs (gName i) (dgN i) := fun B Φ M σ H δ n v r Q K ok ra c h => c _ _ (ok.set ra i) (wipe_set hi) h
theorem trG_tup {K0 : PySem.W.Frag} {k : Nat} (h : TrGs W vs gs dgs) (len : ∀ xs δ K, dgs xs δ K → xs.length = k) : TrG W vs (gTup K0 k gs) (dgT dgs) := fun B Φ M σ H δ n v r Q K ok ra c q => by
  obtain ⟨xs, rfl, q⟩ := DV.asT_inv q
  obtain ⟨a, us, rfl, h1, h2, h3⟩ := ra.tup_inv
  exact ⟨a, us, rfl, SqT.of h1, by rw [h3.1]; exact len _ _ _ q, h B Φ M σ H δ n _ _ _ _ ok h3 c q⟩
theorem trGs_nil : TrGs W vs gNil dgNil := fun B Φ M σ H δ n v r Q K ok ra c q => by
  unfold dgNil at q
  split at q
  · exact ⟨ra.nil_inv, c _ _ ok rfl q⟩
  · exact q.elim
theorem trGs_cons (h1 : TrG W vs g dg) (h2 : TrGs W vs gs dgs) : TrGs W vs (gCons g gs) (dgCons dg dgs) := fun B Φ M σ H δ n v r Q K ok ra c q => by
  unfold dgCons at q
  split at q
  · obtain ⟨u, us, rfl, r1, r2⟩ := ra.cons_inv
    refine ⟨u, us, rfl, h1 B Φ M σ H δ n _ _ _ _ ok r1 (fun σ' δ' ok' e k => ?_) q⟩
    exact h2 B Φ M σ' H δ' n _ _ _ _ ok' r2 (fun σ2 δ2 ok2 e2 k2 => c _ _ ok2 (e2.trans e) k2) k
  · exact q.elim
theorem dg_name {i : Nat} {x : Str} (hN : X.N.Nodup) (hi : X.N[i]? = some x) (hx : Loc X.env.scope x) (hv : i ∈ vs := by decide) (hf : X.fn x = true ∨ X.env.scope.names.lookup x = some .local := by first | exact .inl rfl | exact .inr rfl | assumption) : DG X W vs (.Name x pos) (gName i) (dgN i) :=
  ⟨pg_name hN hi hx hf, trG_name hv⟩
theorem dgs_nil : DGs X W vs [] gNil dgNil := ⟨pgs_nil, trGs_nil⟩
theorem dgs_cons (h1 : DG X W vs e g dg) (h2 : DGs X W vs es gs dgs) (hs : (assignEach (e :: es) X.env).map (·.2) = assign e X.env :: (assignEach es X.env).map (·.2) := by rfl) : DGs X W vs (e :: es) (gCons g gs) (dgCons dg dgs) :=
  ⟨pgs_cons h1.pg h2.pgs hs, trGs_cons h1.tr h2.tr⟩
end
section
variable {X : Cx} {W : Wo} {e : Expr} {vs : List Nat} {t : TE} {d : TD} {dA : TDA} {g : TG} {gs : TGs} {dg : TDG} {dgs : TDGs} {pos : Pos} {s : Stmt} {rest : List Stmt} {t1 t2 : TS} {d1 d2 : TDS}
/-- how many targets there are -/
inductive GLen : TDGs → Nat → Prop
  | nil : GLen dgNil 0
  | cons {i : Nat} {b : TDGs} {k : Nat} : GLen b k → GLen (dgCons (dgN i) b) (k + 1)
  | tup {c b : TDGs} {k j : Nat} : GLen c j → GLen b k → GLen (dgCons (dgT c) b) (k + 1)
theorem GLen.len {b : TDGs} {k : Nat} (h : GLen b k) : ∀ xs δ K, b xs δ K → xs.length = k := by
  induction h with
  | nil =>
    intro xs δ K q
    unfold dgNil at q
    split at q
    · rfl
    · exact q.elim
  | cons hb ih =>
    intro xs δ K q
    unfold dgCons at q
    split at q
    · rw [List.length_cons, ih _ _ _ q]
    · exact q.elim
  | tup hc hb ih1 ih2 =>
    intro xs δ K q
    unfold dgCons at q
    split at q
    · obtain ⟨ys, rfl, q⟩ := DV.asT_inv q
      have : ∀ {c : TDGs} {j : Nat}, GLen c j → ∀ {ys : List DV} {δ : En} {K : En → Prop}, c ys δ K → ∃ δ2, K δ2 := by
        intro c j h
        induction h with
        | nil =>
          intro ys δ K q
          unfold dgNil at q
          split at q
          · exact ⟨_, q⟩
          · exact q.elim
        | cons hb ih =>
          intro ys δ K q
          unfold dgCons at q
          split at q
          · exact ih q
          · exact q.elim
        | tup hc hb ih1 ih2 =>
          intro ys δ K q
          unfold dgCons at q
          split at q
          · obtain ⟨zs, rfl, q⟩ := DV.asT_inv q
            obtain ⟨_, q⟩ := ih1 q
            exact ih2 q
          · exact q.elim
      obtain ⟨δ2, q⟩ := this hc q
      rw [List.length_cons, ih2 _ _ _ q]
    · exact q.elim
theorem dg_tup {es : List Expr} {k : Nat} {n : Nat} (hc : X.calm = true) (h : DGs X W vs es gs dgs) (hl : GLen dgs n) (hn : (assignEach es X.env).length = n := by rfl) (hst : (assignEach es X.env).findIdx? (·.1) = none := by rfl) : DG X W vs (.Tuple es k pos) (gTup X.K n gs) (dgT dgs) :=
  ⟨pg_tup hc h.pgs hn hst, trG_tup h.tr hl.len⟩
/-! statements -/
def dSet (i : Nat) (d : TD) : TDS := fun DD δ n => d δ n fun x m => DD.nx (δ.set i (some (.dat x))) m
def dSetO (i : Nat) (d : TDA) : TDS := fun DD δ n => d δ n fun x m => DD.nx (δ.set i (some (.own x))) m
def dSetG (d : TD) (g : TDG) : TDS := fun DD δ n => d δ n fun x m => g x δ fun δ2 => DD.nx δ2 m
def dSeq (a b : TDS) : TDS := fun DD δ n => a { DD with nx := b DD } δ n
def dNext : TDS := fun DD δ n => DD.nx δ n
def dDrop (d : TD) : TDS := fun DD δ n => d δ n fun _ m => DD.nx δ m
def dRet (d : TD) : TDS := fun DD δ n => d δ n DD.rt
def dIfS (c : TDT) (a b : TDS) : TDS := fun DD δ n => c δ n fun x m => (x = true → a DD δ m) ∧ (x = false → b DD δ m)
def dFrz (i : Nat) (a : TDS) : TDS := fun DD δ n => down δ i fun ds => a DD (δ.set i (some (.dat (.lst ds)))) n
theorem trS_set (i : Nat) (h : TrE W t d) : TrS W (tAsg t (gName i)) (dSet i d) := fun B Φ M σ H δ n D DD ok sm q => h B Φ M σ H δ n _ _ ok (fun r m v H' f p ra k => sm.nx _ _ _ _ _ ((ok.expr f p).set ra i) k) q
theorem ds_set {i : Nat} {x : Str} {pos' : Pos} (hN : X.N.Nodup) (hi : X.N[i]? = some x) (hx : Loc X.env.scope x) (he : DE X W e t d) (hs : swapsWith e (some (.Name x pos')) pos.line X.env = pure false := by rfl) (hf : X.fn x = true ∨ X.env.scope.names.lookup x = some .local := by first | exact .inl rfl | exact .inr rfl | assumption) :
    DS X W (.Assign [.Name x pos'] e pos) (tAsg t (gName i)) (dSet i d) := ⟨ps_set hN hi hx he.pe hs hf, trS_set i he.tr⟩
theorem trS_setO (i : Nat) (h : TrF W t dA) : TrS W (tAsg t (gName i)) (dSetO i dA) := fun B Φ M σ H δ n D DD ok sm q => h B Φ M σ H δ n _ _ ok (fun r m a vs H' f p n1 h1 ra k => sm.nx _ _ _ _ _ (ok.setOwn f p n1 h1 ra i) k) q
theorem ds_setO {i : Nat} {x : Str} {pos' : Pos} (hN : X.N.Nodup) (hi : X.N[i]? = some x) (hx : Loc X.env.scope x) (he : DF X W e t dA) (hs : swapsWith e (some (.Name x pos')) pos.line X.env = pure false := by rfl) (hf : X.fn x = true ∨ X.env.scope.names.lookup x = some .local := by first | exact .inl rfl | exact .inr rfl | assumption) :
    DS X W (.Assign [.Name x pos'] e pos) (tAsg t (gName i)) (dSetO i dA) := ⟨ps_set hN hi hx he.pe hs hf, trS_setO i he.tr⟩
theorem trS_setG (h : TrE W t d) (hg : TrG W vs g dg) : TrS W (tAsg t g) (dSetG d dg) := fun B Φ M σ H δ n D DD ok sm q => h B Φ M σ H δ n _ _ ok (fun r m v H' f p ra k =>
  hg B Φ M σ H' δ m _ _ _ _ (ok.expr f p) ra (fun σ' δ' ok' _ k' => sm.nx _ _ _ _ _ ok' k') k) q
theorem ds_asg {tg : Expr} (vs : List Nat) (he : DE X W e t d) (hg : DG X W vs tg g dg) (hs : swapsWithSole [tg] e pos.line X.env = pure false := by rfl) (hw : swappedStores [tg] e X.env = pure none := by rfl)
    (h1 : (assignEach [tg] X.env).map (·.2) = [assign tg X.env] := by rfl) : DS X W (.Assign [tg] e pos) (tAsg t g) (dSetG d dg) := ⟨ps_asg he.pe hg.pg hs hw h1, trS_setG he.tr hg.tr⟩
theorem Sim.nxt {B : Addr → Prop} {Φ : WPhi} {DD : DEn} {D : Ends} (h : Sim W B Φ DD D) {p : L2.St → Hp → Prop} {q : En → Nat → Prop} (g : ∀ M σ H δ n, Ok W B Φ M σ H δ n → q δ n → p σ H) : Sim W B Φ { DD with nx := q } { D with nx := p } := ⟨g, h.rt, h.bk, h.ct⟩
theorem dss_nil : DSs X W [] tNext dNext := ⟨pss_nil, fun B Φ M σ H δ n D DD ok sm q => sm.nx _ _ _ _ _ ok q⟩
theorem dss_cons (h1 : DS X W s t1 d1) (h2 : DSs X W rest t2 d2) : DSs X W (s :: rest) (tSeq t1 t2) (dSeq d1 d2) := ⟨pss_cons h1.ps h2.pss, fun B Φ M σ H δ n D DD ok sm q =>
  h1.tr B Φ M σ H δ n _ _ ok (sm.nxt fun M' σ' H' δ' n' ok' q' => h2.tr B Φ M' σ' H' δ' n' _ _ ok' sm q') q⟩
theorem dss_one (h1 : DS X W s t1 d1) : DSs X W [s] t1 d1 := ⟨pss_one h1.ps, h1.tr⟩
/-- a statement with one meeting point behind it -/
def dCut (a b : TDS) : TDS := fun DD δ n => ∃ Mid : En → Nat → Prop, a { DD with nx := Mid } δ n ∧ ∀ δ' n', Mid δ' n' → b DD δ' n'
theorem dss_cut (h1 : DS X W s t1 d1) (h2 : DSs X W rest t2 d2) : DSs X W (s :: rest) (tSeq t1 t2) (dCut d1 d2) := ⟨pss_cons h1.ps h2.pss, fun B Φ M σ H δ n D DD ok sm ⟨Mid, q, qm⟩ =>
  h1.tr B Φ M σ H δ n _ _ ok (sm.nxt fun M' σ' H' δ' n' ok' q' => h2.tr B Φ M' σ' H' δ' n' _ _ ok' sm (qm _ _ q')) q⟩
theorem dss_frz (i : Nat) {sts : List Stmt} (h : DSs X W sts t1 d1) : DSs X W sts t1 (dFrz i d1) := ⟨h.pss, fun B Φ M σ H δ n D DD ok sm q => by
  obtain ⟨ds, e, q⟩ := down_inv q
  obtain ⟨M', ok'⟩ := ok.frz e
  exact h.tr B Φ M' σ H _ n _ _ ok' sm q⟩
theorem ds_expr (he : DE X W e t d) (hs : swapsWith e none pos.line X.env = pure false := by rfl) : DS X W (.Expr e pos) (tDrop t) (dDrop d) := ⟨ps_expr he.pe hs, fun B Φ M σ H δ n D DD ok sm q =>
  he.tr B Φ M σ H δ n _ _ ok (fun r m v H' f p ra k => sm.nx _ _ _ _ _ (ok.expr f p) k) q⟩
theorem ds_ret (he : DE X W e t d) : DS X W (.Return (some e) pos) (tRet t) (dRet d) := ⟨ps_ret he.pe, fun B Φ M σ H δ n D DD ok sm q =>
  he.tr B Φ M σ H δ n _ _ ok (fun r m v H' f p ra k => sm.rt M H' v r m (ok.expr f p).phi ok.base p ra k) q⟩
theorem ds_if {c : Expr} {a b : List Stmt} {tc : TT} {dc : TDT} (hc : DT X W c tc dc) (ha : DSs X W a t1 d1) (hb : DSs X W b t2 d2) : DS X W (.If c a b pos) (tIfS tc t1 t2) (dIfS dc d1 d2) := ⟨ps_if hc.pt ha.pss hb.pss, fun B Φ M σ H δ n D DD ok sm q =>
  hc.tr B Φ M σ H δ n _ _ ok (fun b m H' f p k => ite_split (fun z => ha.tr B Φ M σ H' δ m _ _ (ok.expr f p) sm (k.1 z)) (fun z => hb.tr B Φ M σ H' δ m _ _ (ok.expr f p) sm (k.2 z))) q⟩
def dNever : TDS := fun _ _ _ => False
theorem ds_never : DS X W s tNever dNever := ⟨ps_never, fun _ _ _ _ _ _ _ _ _ _ _ h => h.elim⟩
def dBreak : TDS := fun DD δ n => DD.bk δ n
def dCont : TDS := fun DD δ n => DD.ct δ n
theorem ds_break : DS X W (.Break pos) tBreak dBreak := ⟨ps_break, fun B Φ M σ H δ n D DD ok sm q => sm.bk _ _ _ _ _ ok q⟩
theorem ds_continue : DS X W (.Continue pos) tCont dCont := ⟨ps_continue, fun B Φ M σ H δ n D DD ok sm q => sm.ct _ _ _ _ _ ok q⟩
/-! a, b = x, y -/
def dPar (i j : Nat) (a : TDA) : TDS := fun DD δ n => a δ n fun xs m => match xs with
  | [x, y] => DD.nx ((δ.set i (some (.dat x))).set j (some (.dat y))) m
  | _ => False
theorem ds_par {i j : Nat} {x y : Str} {a b : Expr} {ta : TA} {da : TDA} {px py pt : Pos} {kt k2 pt2} (hc : X.calm = true) (hN : X.N.Nodup) (hi : X.N[i]? = some x) (hj : X.N[j]? = some y) (hij : i ≠ j)
    (hx : X.env.scope.names.lookup x = some .local) (hy : X.env.scope.names.lookup y = some .local) (ha : DA X W [a, b] ta da)
    (hw : swappedStores [.Tuple [.Name x px, .Name y py] kt pt] (.Tuple [a, b] k2 pt2) X.env = pure (some [x, y]))
    (hs : swapsWithSole [.Tuple [.Name x px, .Name y py] kt pt] (.Tuple [a, b] k2 pt2) pos.line X.env = pure false := by rfl) :
    DS X W (.Assign [.Tuple [.Name x px, .Name y py] kt pt] (.Tuple [a, b] k2 pt2) pos) (tPar i j ta) (dPar i j da) := ⟨ps_par hc hN hi hj hij hx hy ha.pa hw hs, fun B Φ M σ H δ n D DD ok sm q =>
  ha.tr B Φ M σ H δ n _ _ ok (fun r m v H' f p ra k => by
    match r, k with
    | [x, y], k =>
      obtain ⟨u, us, rfl, r1, rs⟩ := ra.cons_inv
      obtain ⟨w, rfl, r2⟩ := rs.one_inv
      exact ⟨u, w, rfl, sm.nx _ _ _ _ _ (((ok.expr f p).set r1 i).set r2 j) k⟩) q⟩
def dPar3 (i j l : Nat) (a : TDA) : TDS := fun DD δ n => a δ n fun xs m => match xs with
  | [x, y, z] => DD.nx (((δ.set i (some (.dat x))).set j (some (.dat y))).set l (some (.dat z))) m
  | _ => False
theorem ds_par3 {i j l : Nat} {x y z : Str} {a b c : Expr} {ta : TA} {da : TDA} {px py pz pt pos : Pos} {kt k2 pt2} (hc : X.calm = true) (hN : X.N.Nodup) (hi : X.N[i]? = some x) (hj : X.N[j]? = some y) (hl : X.N[l]? = some z) (hij : i ≠ j) (hil : i ≠ l) (hjl : j ≠ l)
    (hx : X.env.scope.names.lookup x = some .local) (hy : X.env.scope.names.lookup y = some .local) (hz : X.env.scope.names.lookup z = some .local) (ha : DA X W [a, b, c] ta da)
    (hw : swappedStores [.Tuple [.Name x px, .Name y py, .Name z pz] kt pt] (.Tuple [a, b, c] k2 pt2) X.env = pure (some [x, y, z]))
    (hs : swapsWithSole [.Tuple [.Name x px, .Name y py, .Name z pz] kt pt] (.Tuple [a, b, c] k2 pt2) pos.line X.env = pure false := by rfl) :
    DS X W (.Assign [.Tuple [.Name x px, .Name y py, .Name z pz] kt pt] (.Tuple [a, b, c] k2 pt2) pos) (tPar3 i j l ta) (dPar3 i j l da) := ⟨ps_par3 hc hN hi hj hl hij hil hjl hx hy hz ha.pa hw hs, fun B Φ M σ H δ n D DD ok sm q =>
  ha.tr B Φ M σ H δ n _ _ ok (fun r m v H' f p ra k => by
    match r, k with
    | [x, y, z], k =>
      obtain ⟨u, us, rfl, r1, rs⟩ := ra.cons_inv
      obtain ⟨w, ws, rfl, r2, rs⟩ := rs.cons_inv
      obtain ⟨w2, rfl, r3⟩ := rs.one_inv
      exact ⟨u, w, w2, rfl, sm.nx _ _ _ _ _ ((((ok.expr f p).set r1 i).set r2 j).set r3 l) k⟩) q⟩
def dApp (i : Nat) (a : TD) : TDS := fun DD δ n => down δ i fun ds => a δ n fun x m => ds.length < 100000 ∧ DD.nx (δ.set i (some (.own (ds ++ [x])))) m
theorem lt_size2 {n : Nat} (h : n < 100000) : n < sizeLine := Nat.lt_of_lt_of_le h (by decide)
/-- xs.append(e), xs one's own -/
theorem trS_app {K0 : PySem.W.Frag} (i : Nat) (h : TrE W t d) : TrS W (tDrop (tBM K0 "list" rAppend (tVar i) (tCons t tNil))) (dApp i d) := fun B Φ M σ H δ n D DD ok sm q => by
  obtain ⟨ds, e, q⟩ := down_inv q
  obtain ⟨l, us, s, hM, hB, hl, r0⟩ := ok.own i ds e
  refine ⟨.ref l, s, .inl ⟨rfl, us, SqL.of hl⟩, h B Φ M σ H δ n _ _ ok (fun x m v H' f p ra k => ?_) q⟩
  have ok' := ok.expr f p
  have hl' : H' l = some (.lst us) := f _ _ hl fun z => hB (ok.pool l z).1
  exact ⟨l, us, v, rfl, rfl, hl', by rw [r0.1]; exact lt_size2 k.1, sm.nx _ _ _ _ _ (ok'.write e s ((r0.mono (ok.frM f)).append (.cons ra .nil))) k.2⟩
theorem ds_app {x : Str} {e : Expr} {p2 p3 p4 : Pos} (i : Nat) (hi : X.N[i]? = some x := by rfl) (hv : Vis X.env.scope x := by first | exact Or.inl rfl | exact Or.inr (Or.inl rfl)) (he : DE X W e t d)
    (hbase : attributeBase (.Name x p2) "append" X.env (eval (.Name x p2) X.env) = eval (.Name x p2) X.env := by rfl)
    (hfew : ((backTo p4 (starEach [e] X.env)).all (fun x => !x.1) && (backToKw p4 (keywordEach [] X.env)).all (fun x => x.1.isSome) && decide ([e].length + ([] : List Keyword).length + (if ([] : List Keyword).isEmpty then 0 else 1) < 30)) = true := by rfl)
    (hline : (p3.endLine == p4.line) = true := by rfl) (hs : starEach [e] X.env = (false, eval e X.env) :: starEach [] X.env := by rfl) (hplain : (backTo p4 (starEach [] X.env)).any (·.1) = false := by rfl)
    (hsw : swapsWith (.Call (.Attribute (.Name x p2) "append" p3) [e] [] p4) none pos.line X.env = pure false := by rfl) (hd : (x == ("__debug__" : Str)) = false := by decide) (hcd : (x == ("__classdict__" : Str)) = false := by decide) :
    DS X W (.Expr (.Call (.Attribute (.Name x p2) "append" p3) [e] [] p4) pos) (tDrop (tBM X.K "list" rAppend (tVar i) (tCons t tNil))) (dApp i d) :=
  ⟨ps_expr (pe_bm PySem.F.plainAttrs_list PySem.F.slot_list_append PySem.F.type_list_append mt_append (pe_var hi hv hd hcd) (pa_cons he.pe pa_nil hs) hbase hfew hline hs hplain) hsw, trS_app i he.tr⟩
/-- xs[k] = v, xs one's own -/
def dSto (i : Nat) (v k : TD) : TDS := fun DD δ n => down δ i fun ds => v δ n fun x m => k δ m fun y j => y.asI fun z => ∃ p, ixN ds.length z = some p ∧ DD.nx (δ.set i (some (.own (ds.set p x)))) j
theorem trS_sto {tv tk : TE} {v k : TD} (i : Nat) (hv : TrE W tv v) (hk : TrE W tk k) : TrS W (tAsg tv (gSub (tVar i) tk rSetL)) (dSto i v k) := fun B Φ M σ H δ n D DD ok sm q => by
  obtain ⟨ds, e, q⟩ := down_inv q
  obtain ⟨l, us, s, hM, hB, hl, r0⟩ := ok.own i ds e
  refine hv B Φ M σ H δ n _ _ ok (fun x m u H1 f1 p1 r1 q => ⟨.ref l, s, ?_⟩) q
  refine hk B Φ M σ H1 δ m _ _ (ok.expr f1 p1) (fun y j w H2 f2 p2 r2 q => ?_) q
  obtain ⟨z, rfl, p, hp, q⟩ := DV.asI_inv q
  have f12 := f1.trans f2
  have ok' := (ok.expr f1 p1).expr f2 p2
  have hl' : H2 l = some (.lst us) := f12 _ _ hl fun z => hB (ok.pool l z).1
  refine ⟨l, us, z, p, rfl, r2.int_inv, hl', by rw [r0.1]; exact hp, sm.nx _ _ _ _ _ (ok'.write e s ?_) q⟩
  exact (r0.mono (ok.frM f12)).set (r1.mono (ok.frM f2)) p
theorem ds_sto {x : Str} {e k : Expr} {tk : TE} {dk : TD} {p2 p3 : Pos} (i : Nat) (hi : X.N[i]? = some x := by rfl) (hv : Vis X.env.scope x := by first | exact Or.inl rfl | exact Or.inr (Or.inl rfl)) (he : DE X W e t d) (hk : DE X W k tk dk)
    (ha : ∀ v, assign (.Subscript (.Name x p2) k p3) X.env v = (do
      let ov ← holding [v] (eval (.Name x p2) X.env)
      let iv ← holding [v, ov] (eval k X.env)
      standAt p3
      holding [v, ov, iv] (setItem ov iv v)
      release [v, ov, iv] []) := by intro _; rfl)
    (hs : swapsWithSole [.Subscript (.Name x p2) k p3] e pos.line X.env = pure false := by rfl) (hw : swappedStores [.Subscript (.Name x p2) k p3] e X.env = pure none := by rfl)
    (h1 : (assignEach [.Subscript (.Name x p2) k p3] X.env).map (·.2) = [assign (.Subscript (.Name x p2) k p3) X.env] := by rfl) (hd : (x == ("__debug__" : Str)) = false := by decide) (hcd : (x == ("__classdict__" : Str)) = false := by decide) :
    DS X W (.Assign [.Subscript (.Name x p2) k p3] e pos) (tAsg t (gSub (tVar i) tk rSetL)) (dSto i d dk) :=
  ⟨ps_asg he.pe (pg_sub (pe_var hi hv hd hcd) hk.pe set_list ha) hs hw h1, trS_sto i he.tr hk.tr⟩
/-! ### what is walked -/
abbrev TDI := En → Nat → (Nat → (Nat → DV) → Nat → Prop) → Prop
structure WalkD (W : Wo) (M : Addr → Prop) (H1 : Hp) (J : It) (N : Nat) (f : Nat → DV) (G : Hp → Prop) (Y : Nat → Hp → V → Hp → Prop) : Prop where
  wk : Walk J N G Y
  gd : ∀ (M' : Addr → Prop) (H' : Hp), FrS M H1 H' → (∀ a, M' a → M a ∨ H1 a = none) → G H'
  yd : ∀ (M' : Addr → Prop) (i : Nat) (H : Hp) (v : V) (H' : Hp), i < N → FrS M H1 H → (∀ a, M' a → M a ∨ H1 a = none) → (∀ a, M' a → IsL H a) → Y i H v H' → Same H H' ∧ Rep W M' H' v (f i)
def TrI (W : Wo) (wi : TI) (d : TDI) : Prop := ∀ (B : Addr → Prop) (Φ : WPhi) (M : Addr → Prop) (σ : L2.St) (H : Hp) (δ : En) (n : Nat) (R : It → Hp → Prop) (K : Nat → (Nat → DV) → Nat → Prop), Ok W B Φ M σ H δ n →
  (∀ N f m J H1 G Y, FrS (pl W) H H1 → Pl W H1 m → WalkD W M H1 J N f G Y → K N f m → R J H1) → d δ n K → wi σ H R
structure DI (X : Cx) (W : Wo) (tg e : Expr) (wi : TI) (d : TDI) : Prop where
  pi : PI X tg e wi
  tr : TrI W wi d
def diL (a : TD) : TDI := fun δ n K => a δ n fun x m => x.asL fun ds => K ds.length (fun i => ds.getD i .non) m
def diR1 (a : TDA) : TDI := fun δ n K => a δ n fun xs m => match xs with
  | [x] => x.asI fun j => -(2 ^ 62) ≤ j ∧ j < 2 ^ 62 ∧ K j.toNat (fun i => .int (0 + (i : Int))) m
  | _ => False
def diR2 (a : TDA) : TDI := fun δ n K => a δ n fun xs m => match xs with
  | [x, y] => x.asI fun i => y.asI fun j => (-(2 ^ 62) ≤ i ∧ i < 2 ^ 62 ∧ -(2 ^ 62) ≤ j ∧ j < 2 ^ 62) ∧ K (j - i).toNat (fun k => .int (i + (k : Int))) m
  | _ => False
def diE (a : TDA) : TDI := fun δ n K => a δ n fun xs m => match xs with
  | [x] => x.asL fun ds => K ds.length (fun i => .tup [.int (i : Nat), ds.getD i .non]) m
  | _ => False
def diZ (a : TDA) : TDI := fun δ n K => a δ n fun xs m => match xs with
  | [x, y] => x.asL fun ds => y.asL fun es => K (min ds.length es.length) (fun i => .tup [ds.getD i .non, es.getD i .non]) m
  | _ => False
theorem getD_get {α : Type} {l : List α} {i : Nat} {z : α} (h : i < l.length) : l[i]? = some (l.getD i z) := by
  rw [List.getD_eq_getElem?_getD, List.getElem?_eq_getElem h]
  rfl
theorem sq_fr {K0 : PySem.W.Frag} {M : Addr → Prop} {H1 H' : Hp} {q : Addr} {vs : List V} (h : H1 q = some (.lst vs)) (n : ¬ M q) (f : FrS M H1 H') : SqL K0 H' q vs := SqL.of (f _ _ h n)
theorem rep_later {M M' : Addr → Prop} {H1 H : Hp} {v : V} {d : DV} (r : Rep W M H1 v d) (f : FrS M H1 H) (s : ∀ a, M' a → M a ∨ H1 a = none) : Rep W M' H v d :=
  ((r.sub (M' := fun a => M a ∨ M' a) fun a z => z.elim .inl (s a)).mono (f.mono fun b hb => .inl hb)).sub fun a z => .inl (.inr z)
theorem walkD_list {K0 : PySem.W.Frag} {M : Addr → Prop} {H1 : Hp} {q : Addr} {vs : List V} {ds : List DV} (h : H1 q = some (.lst vs)) (n : ¬ M q) (r : RepA W M H1 vs ds) :
    WalkD W M H1 (Itl K0 q) ds.length (fun i => ds.getD i .non) (fun H => SqL K0 H q vs) (YAt vs) := by
  rw [← r.1]
  refine ⟨walk_list, fun M' H' f _ => sq_fr h n f, fun M' i H v H' hi f s _ y => ?_⟩
  obtain ⟨rfl, y⟩ := y
  exact ⟨fun _ _ e => e, rep_later (r.2 i v _ y (getD_get (by rw [← r.1]; exact hi))) f s⟩
theorem walkD_range {M : Addr → Prop} {H1 : Hp} {lo : Int} {N : Nat} : WalkD W M H1 (Itr lo N) N (fun i => .int (lo + (i : Int))) (fun _ => True) (YFn fun i => .int (lo + i)) :=
  ⟨walk_range, fun _ _ _ _ => trivial, fun M' i H v H' hi f s _ y => by
    obtain ⟨rfl, rfl⟩ := y
    exact ⟨fun _ _ e => e, .int _⟩⟩
theorem rep_pair {M : Addr → Prop} {H : Hp} {T : Addr} {x y : V} {a b : DV} (dom : ∀ a, M a → IsL H a) (nT : H T = none) (h1 : Rep W M H x a) (h2 : Rep W M H y b) : Rep W M (upd H T (.tup [x, y])) (.ref T) (.tup [a, b]) := by
  have f : FrS M H (upd H T (.tup [x, y])) := FrS.refl.upd (.inl nT)
  have r : RepA W M (upd H T (.tup [x, y])) [x, y] [a, b] := .cons (h1.mono f) (.cons (h2.mono f) .nil)
  exact .tup upd_same (fun z => (dom T z).ne nT) r.1 r.2
theorem walkD_enum {K0 : PySem.W.Frag} {M : Addr → Prop} {H1 : Hp} {q : Addr} {vs : List V} {ds : List DV} (h : H1 q = some (.lst vs)) (n : ¬ M q) (r : RepA W M H1 vs ds) :
    WalkD W M H1 (Ite K0 q) ds.length (fun i => .tup [.int (i : Nat), ds.getD i .non]) (fun H => SqL K0 H q vs) (YPair (fun i => some (.int (i : Nat))) (fun i => vs[i]?)) := by
  rw [← r.1]
  refine ⟨walk_enum, fun M' H' f _ => sq_fr h n f, fun M' i H v H' hi f s dm y => ?_⟩
  obtain ⟨T, x, y, rfl, nT, rfl, e1, e2⟩ := y
  obtain rfl := Option.some.inj e1
  exact ⟨same_new nT, rep_pair dm nT (.int _) (rep_later (r.2 i y _ e2 (getD_get (by rw [← r.1]; exact hi))) f s)⟩
theorem walkD_zip {K0 : PySem.W.Frag} {M : Addr → Prop} {H1 : Hp} {q p : Addr} {vs us : List V} {ds es : List DV} (h : H1 q = some (.lst vs)) (n : ¬ M q) (r : RepA W M H1 vs ds) (h2 : H1 p = some (.lst us)) (n2 : ¬ M p) (r2 : RepA W M H1 us es) :
    WalkD W M H1 (Itz K0 q p) (min ds.length es.length) (fun i => .tup [ds.getD i .non, es.getD i .non]) (fun H => SqL K0 H q vs ∧ SqL K0 H p us) (YPair (fun i => vs[i]?) (fun i => us[i]?)) := by
  refine ⟨walk_zip (by rw [r.1, r2.1]), fun M' H' f _ => ⟨sq_fr h n f, sq_fr h2 n2 f⟩, fun M' i H v H' hi f s dm y => ?_⟩
  obtain ⟨T, x, y, rfl, nT, rfl, e1, e2⟩ := y
  exact ⟨same_new nT, rep_pair dm nT (rep_later (r.2 i x _ e1 (getD_get (by omega))) f s) (rep_later (r2.2 i y _ e2 (getD_get (by omega))) f s)⟩
theorem di_list {l tg : Expr} (hl : DE X W l t d) : DI X W tg l (iList X.K t) (diL d) := ⟨pi_list hl.pe, fun B Φ M σ H δ n R K ok c q => hl.tr B Φ M σ H δ n _ _ ok (fun r m v H' f p ra k => by
  obtain ⟨ds, rfl, k⟩ := DV.asL_inv k
  obtain ⟨a, vs, rfl, h1, h2, h3⟩ := ra.lst_inv
  exact ⟨a, rfl, ⟨vs, SqL.of h1⟩, c _ _ _ _ _ _ _ f p (walkD_list h1 h2 h3) k⟩) q⟩
theorem di_range1 {a tg : Expr} {ta : TA} {da : TDA} {p pos : Pos} (hg : Gl X "range") (hm : X.mg "range" = none) (ha : DA X W [a] ta da) (hs : starEach [a] X.env = [(false, eval a X.env)] := by rfl) : DI X W tg (.Call (.Name "range" p) [a] [] pos) (iRng1 ta) (diR1 da) :=
  ⟨pi_range1 hg hm ha.pa hs, fun B Φ M σ H δ n R K ok c q => ha.tr B Φ M σ H δ n _ _ ok (fun r m v H' f p ra k => by
    match r, k with
    | [x], k =>
      obtain ⟨j, rfl, h1, h2, k⟩ := DV.asI_inv k
      obtain ⟨u, rfl, r1⟩ := ra.one_inv
      exact ⟨j, by rw [r1.int_inv], h1, h2, c _ _ _ _ _ _ _ f p walkD_range k⟩) q⟩
theorem di_range2 {a b tg : Expr} {ta : TA} {da : TDA} {p pos : Pos} (hg : Gl X "range") (hm : X.mg "range" = none) (ha : DA X W [a, b] ta da) (hs : starEach [a, b] X.env = [(false, eval a X.env), (false, eval b X.env)] := by rfl) (hs2 : starEach [b] X.env = [(false, eval b X.env)] := by rfl) :
    DI X W tg (.Call (.Name "range" p) [a, b] [] pos) (iRng2 ta) (diR2 da) :=
  ⟨pi_range2 hg hm ha.pa hs hs2, fun B Φ M σ H δ n R K ok c q => ha.tr B Φ M σ H δ n _ _ ok (fun r m v H' f p ra k => by
    match r, k with
    | [x, y], k =>
      obtain ⟨i, rfl, k1⟩ := DV.asI_inv k
      obtain ⟨j, rfl, h, k2⟩ := DV.asI_inv k1
      obtain ⟨u, us, rfl, r1, rs⟩ := ra.cons_inv
      obtain ⟨w, rfl, r2⟩ := rs.one_inv
      exact ⟨i, j, by rw [r1.int_inv, r2.int_inv], h, c _ _ _ _ _ _ _ f p walkD_range k2⟩) q⟩
theorem di_enum {e : Expr} {ta : TA} {da : TDA} {p pos tpos : Pos} {elts : List Expr} {kk : Nat} (hg : Gl X "enumerate") (hm : X.mg "enumerate" = none) (ha : DA X W [e] ta da) (hs : starEach [e] X.env = [(false, eval e X.env)] := by rfl) :
    DI X W (.Tuple elts kk tpos) (.Call (.Name "enumerate" p) [e] [] pos) (iEnum X.K ta) (diE da) :=
  ⟨pi_enum hg hm ha.pa hs, fun B Φ M σ H δ n R K ok c q => ha.tr B Φ M σ H δ n _ _ ok (fun r m v H' f p ra k => by
    match r, k with
    | [x], k =>
      obtain ⟨ds, rfl, k⟩ := DV.asL_inv k
      obtain ⟨u, rfl, r1⟩ := ra.one_inv
      obtain ⟨a, vs, rfl, h1, h2, h3⟩ := r1.lst_inv
      exact ⟨a, vs, rfl, SqL.of h1, c _ _ _ _ _ _ _ f p (walkD_enum h1 h2 h3) k⟩) q⟩
theorem di_zip {e e2 : Expr} {ta : TA} {da : TDA} {p pos tpos : Pos} {elts : List Expr} {kk : Nat} (hg : Gl X "zip") (hm : X.mg "zip" = none) (ha : DA X W [e, e2] ta da)
    (hs : starEach [e, e2] X.env = (false, eval e X.env) :: starEach [e2] X.env := by rfl) (hpl : (backTo pos (starEach [e2] X.env)).any (·.1) = false := by rfl) :
    DI X W (.Tuple elts kk tpos) (.Call (.Name "zip" p) [e, e2] [] pos) (iZip X.K ta) (diZ da) :=
  ⟨pi_zip hg hm ha.pa hs hpl, fun B Φ M σ H δ n R K ok c q => ha.tr B Φ M σ H δ n _ _ ok (fun r m v H' f p ra k => by
    match r, k with
    | [x, y], k =>
      obtain ⟨ds, rfl, k1⟩ := DV.asL_inv k
      obtain ⟨es, rfl, k2⟩ := DV.asL_inv k1
      obtain ⟨u, us, rfl, r1, rs⟩ := ra.cons_inv
      obtain ⟨w, rfl, r2⟩ := rs.one_inv
      obtain ⟨a, vs, rfl, h1, h2, h3⟩ := r1.lst_inv
      obtain ⟨b, ws, rfl, g1, g2, g3⟩ := r2.lst_inv
      exact ⟨a, b, vs, ws, rfl, SqL.of h1, SqL.of g1, c _ _ _ _ _ _ _ f p (walkD_zip h1 h2 h3 g1 g2 g3) k2⟩) q⟩
/-! ### for -/
def dFor (it : TDI) (g : TDG) (b : TDS) : TDS := fun DD δ n => it δ n fun N f m => ∃ I : Nat → En → Nat → Prop, I 0 δ m ∧ (∀ i δ' m', i < N → I i δ' m' → g (f i) δ' fun δ2 => b { DD with nx := I (i + 1), ct := I (i + 1), bk := DD.nx } δ2 m') ∧ ∀ δ' m', I N δ' m' → DD.nx δ' m'
theorem trS_for {wi : TI} {it : TDI} (hi : TrI W wi it) (hg : TrG W vs g dg) (hb : TrS W t1 d1) : TrS W (tFor wi g t1) (dFor it dg d1) := fun B Φ M0 σ H δ n D DD ok sm q => by
  refine hi B Φ M0 σ H δ n _ _ ok (fun N f m J H1 G Y f1 p1 w ⟨I, i0, is, id⟩ => ?_) q
  have ok1 := ok.expr f1 p1
  have pb : ∀ a, W.p = some a → B a := fun a e => (ok.pool a e).1
  have cl0 := ok.cl
  refine for_it w.wk (fun i σ H => ∃ M' δ' m', Ok W B (fun M H => Φ M H ∧ Sin M0 H1 M H) M' σ H δ' m' ∧ I i δ' m') ?_ ?_ ?_ ?_
  · exact ⟨M0, δ, m, ok1.more (Sin M0 H1) ⟨.refl, fun a z => .inl z⟩ (sin_cl ok.base pb), i0⟩
  · rintro i σ H hi ⟨M', δ', m', ok', _⟩
    exact w.gd M' H ok'.phi.2.1 ok'.phi.2.2
  · rintro i x σ H H' hi ⟨M', δ', m', ok', inv⟩ y
    obtain ⟨s, r⟩ := w.yd M' i H x H' hi ok'.phi.2.1 ok'.phi.2.2 ok'.dom y
    refine hg B _ M' σ H' δ' m' x (f i) _ _ (ok'.expr (.of s) (pl_same ok'.plOf s)) r (fun σ2 δ2 ok3 _ k => hb B _ M' σ2 H' δ2 m' _ _ ok3 ⟨?_, ?_, ?_, ?_⟩ k) (is i δ' m' hi inv)
    · exact fun M σ H δ n ok inv => ⟨M, δ, n, ok, inv⟩
    · exact fun M H v r n ph => sm.rt M H v r n ph.1
    · exact fun M σ H δ n ok k => sm.nx _ _ _ _ _ (ok.less cl0) k
    · exact fun M σ H δ n ok inv => ⟨M, δ, n, ok, inv⟩
  · rintro σ H ⟨M', δ', m', ok', inv⟩
    exact sm.nx _ _ _ _ _ (ok'.less cl0) (id _ _ inv)
theorem ds_for {iter tg : Expr} {body : List Stmt} {wi : TI} {it : TDI} (vs : List Nat) (hp : PassesOwn (model X.prog X.w) X.A X.env X.xe) (hc : X.calm = true) (hi : DI X W tg iter wi it) (hg : DG X W vs tg g dg) (hb : DSs X W body t1 d1)
    (hs : ∀ x, foldedSetIterable iter X.env x = pure x := by intro _; rfl) : DS X W (.For tg iter body [] pos) (tFor wi g t1) (dFor it dg d1) := ⟨ps_for hp hc hi.pi hg.pg hb.pss hs, trS_for hi.tr hg.tr hb.tr⟩
/-! ### while -/
def dWhile (c : TDT) (b : TDS) : TDS := fun DD δ n => ∃ I : Nat → En → Nat → Prop, (∃ k, I k δ n) ∧ ∀ k δ' n', I k δ' n' → c δ' n' fun x m => (x = true → b { DD with nx := fun δ2 n2 => ∃ j, j < k ∧ I j δ2 n2, ct := fun δ2 n2 => ∃ j, j < k ∧ I j δ2 n2, bk := DD.nx } δ' m) ∧ (x = false → DD.nx δ' m)
theorem trS_while {tc : TT} {dc : TDT} (hc : TrT W tc dc) (hb : TrS W t1 d1) : TrS W (tWhile tc t1) (dWhile dc d1) := fun B Φ M σ H δ n D DD ok sm ⟨I, ⟨k0, i0⟩, is⟩ => by
  refine ⟨fun k σ H => ∃ M δ n, Ok W B Φ M σ H δ n ∧ I k δ n, ⟨k0, M, δ, n, ok, i0⟩, ?_⟩
  rintro k σ H ⟨M, δ, n, ok, inv⟩
  refine hc B Φ M σ H δ n _ _ ok (fun b m H' f p q => ite_split (fun z => ?_) (fun z => sm.nx _ _ _ _ _ (ok.expr f p) (q.2 z))) (is k δ n inv)
  refine ⟨fun σ' H' => ∃ j, j < k ∧ ∃ M δ n, Ok W B Φ M σ' H' δ n ∧ I j δ n, fun σ' H' h => h, hb B Φ M σ H' δ m _ _ (ok.expr f p) ⟨?_, ?_, ?_, ?_⟩ (q.1 z)⟩
  · exact fun M σ H δ n ok ⟨j, hj, inv⟩ => ⟨j, hj, M, δ, n, ok, inv⟩
  · exact sm.rt
  · exact sm.nx
  · exact fun M σ H δ n ok ⟨j, hj, inv⟩ => ⟨j, hj, M, δ, n, ok, inv⟩
theorem ds_while {c : Expr} {body : List Stmt} {tc : TT} {dc : TDT} (hp : PassesOwn (model X.prog X.w) X.A X.env X.xe) (hc : DT X W c tc dc) (hb : DSs X W body t1 d1) : DS X W (.While c body [] pos) (tWhile tc t1) (dWhile dc d1) := ⟨ps_while hp hc.pt hb.pss, trS_while hc.tr hb.tr⟩
/-! ### comprehensions -/
def dwipe (δ : En) : List Nat → En
  | [] => δ
  | v :: vs => (dwipe δ vs).set v none
theorem Ok.unset {B M : Addr → Prop} {Φ : WPhi} {σ : L2.St} {H : Hp} {δ : En} {n : Nat} (k : Ok W B Φ M σ H δ n) (i : Nat) : Ok W B Φ M (σ.set i none) H (δ.set i none) n where
  len := by simp [k.len]
  dat := fun j e h => by
    rcases get_set h with ⟨rfl, e1, hl⟩ | ⟨ne, h⟩
    · simp at e1
    · obtain ⟨u, e1, r1⟩ := k.dat j e h
      exact ⟨u, by rw [List.getElem?_set_ne ne]; exact e1, r1⟩
  own := fun j e h => by
    rcases get_set h with ⟨rfl, e1, hl⟩ | ⟨ne, h⟩
    · simp at e1
    · obtain ⟨q, vs, e1, r1⟩ := k.own j e h
      exact ⟨q, vs, by rw [List.getElem?_set_ne ne]; exact e1, r1⟩
  apart := fun a b ds es q h1 h2 h3 h4 => by
    rcases get_set h1 with ⟨rfl, e1, hl⟩ | ⟨ne, h1⟩
    · simp at e1
    · rcases get_set h2 with ⟨rfl, e1, hl⟩ | ⟨ne2, h2⟩
      · simp at e1
      · rw [List.getElem?_set_ne ne] at h3
        rw [List.getElem?_set_ne ne2] at h4
        exact k.apart a b ds es q h1 h2 h3 h4
  base := k.base
  dom := k.dom
  pool := k.pool
  phi := k.phi
  cl := k.cl
theorem Ok.wipe {B M : Addr → Prop} {Φ : WPhi} {σ : L2.St} {H : Hp} {δ : En} {n : Nat} (k : Ok W B Φ M σ H δ n) : ∀ vs : List Nat, Ok W B Φ M (L2.wipe σ vs) H (dwipe δ vs) n
  | [] => k
  | v :: vs => (Ok.wipe k vs).unset v
theorem Ok.any {B M : Addr → Prop} {Φ : WPhi} {σ : L2.St} {H : Hp} {δ : En} {n : Nat} (k : Ok W B Φ M σ H δ n) : Ok W B (fun _ _ => True) M σ H δ n := ⟨k.len, k.dat, k.own, k.apart, k.base, k.dom, k.pool, trivial, fun _ _ _ _ _ _ => trivial⟩
theorem wipe_in {σ : L2.St} {i : Nat} : ∀ {vs : List Nat}, i ∈ vs → (L2.wipe σ vs)[i]? = if i < σ.length then some none else none
  | v :: vs, h => by
    unfold L2.wipe
    rw [List.getElem?_set, wipe_length]
    by_cases e : v = i
    · rw [if_pos e, e]
    · rw [if_neg e]
      exact wipe_in ((List.mem_cons.mp h).resolve_left fun z => e z.symm)
theorem wipe_idem (σ : L2.St) (vs : List Nat) : L2.wipe (L2.wipe σ vs) vs = L2.wipe σ vs := by
  apply List.ext_getElem?
  intro i
  by_cases h : i ∈ vs
  · rw [wipe_in h, wipe_in h, wipe_length]
  · rw [wipe_out h]
/-- a new list that no slot holds -/
theorem Ok.grow {B M : Addr → Prop} {Φ : WPhi} {σ : L2.St} {H : Hp} {δ : En} {n : Nat} (k : Ok W B Φ M σ H δ n) {q : Addr} (nq : H q = none) : Ok W B Φ (fun a => M a ∨ a = q) σ (upd H q (.lst [])) δ n := by
  have := k.setOwn (H' := upd H q (.lst [])) (FrS.refl.upd (.inl nq)) (pl_new k.plOf nq) (vs := []) (ds := []) nq upd_same .nil σ.length
  rw [List.set_eq_of_length_le (Nat.le_refl _), List.set_eq_of_length_le (by rw [k.len]; exact Nat.le_refl _)] at this
  exact this
/-- a list that no slot holds is written -/
theorem Ok.put {B M : Addr → Prop} {σ : L2.St} {H : Hp} {δ : En} {n : Nat} (k : Ok W B (fun _ _ => True) M σ H δ n) {q : Addr} {us0 : List V} (hM : M q) (hB : ¬ B q) (hs : ∀ (i : Nat) (ds : List DV), δ[i]? = some (some (SV.own ds)) → σ[i]? ≠ some (some (.ref q))) :
    Ok W B (fun _ _ => True) M σ (upd H q (.lst us0)) δ n := by
  have f : FrS M H (upd H q (.lst us0)) := FrS.refl.upd (.inr hM)
  refine ⟨k.len, fun i d e => ?_, fun i ds e => ?_, k.apart, k.base, fun a h => ?_, fun p e => ⟨(k.pool p e).1, ?_⟩, trivial, fun _ _ _ _ _ _ => trivial⟩
  · obtain ⟨v, e1, r⟩ := k.dat i d e
    exact ⟨v, e1, r.mono f⟩
  · obtain ⟨t, us, e1, h1, h2, h3, h4⟩ := k.own i ds e
    have tq : t ≠ q := fun z => hs i ds e (by rw [e1, z])
    exact ⟨t, us, e1, h1, h2, by rw [upd_ne tq]; exact h3, h4.mono f⟩
  · by_cases z : a = q
    · rw [z]
      exact ⟨_, upd_same⟩
    · obtain ⟨us, e2⟩ := k.dom a h
      exact ⟨us, by rw [upd_ne z]; exact e2⟩
  · have pq : p ≠ q := fun z => hB (by rw [← z]; exact (k.pool p e).1)
    exact (k.pool p e).2.upd_ne pq
def dLc (it : TDI) (g : TDG) (c : TDT) (e : TD) (vs : List Nat) : TDA := fun δ n K => it δ n fun N f m => N ≤ 100000 ∧ ∃ I : Nat → List DV → Nat → Prop, I 0 [] m ∧
  (∀ i acc m', i < N → I i acc m' → g (f i) (dwipe δ vs) fun δ2 => c δ2 m' fun b m2 => (b = true → e δ2 m2 fun y m3 => I (i + 1) (acc ++ [y]) m3) ∧ (b = false → I (i + 1) acc m2)) ∧ ∀ acc m', I N acc m' → K acc m'
theorem trF_lc {wi : TI} {it : TDI} {tt : TT} {dt : TDT} {te : TE} {de : TD} (vs : List Nat) (hi : TrI W wi it) (hg : TrG W vs g dg) (ht : TrT W tt dt) (he : TrE W te de) : TrF W (tLc wi g tt te vs) (dLc it dg dt de vs) := fun B Φ M σ H δ n Q K ok c q => by
  refine hi B Φ M σ H δ n _ _ ok (fun N f m J H1 G Y f1 p1 w ⟨hN, I, i0, is, id⟩ D nD => ?_) q
  have ok1 := (ok.expr f1 p1).wipe vs
  have nM : ¬ M D := fun z => (ok1.dom D z).ne nD
  have nB : ¬ B D := fun z => nM (ok.base D z)
  have nP : W.p ≠ some D := fun z => nB (ok.pool D z).1
  have sub2 : ∀ a, (M a ∨ a = D) → M a ∨ H1 a = none := fun a z => z.imp (fun h => h) fun e => by rw [e]; exact nD
  have hs0 : ∀ (i : Nat) (ds : List DV), (dwipe δ vs)[i]? = some (some (SV.own ds)) → (L2.wipe σ vs)[i]? ≠ some (some (.ref D)) := fun i ds e z => by
    obtain ⟨t, us, e1, h1, _⟩ := ok1.own i ds e
    rw [z] at e1
    obtain rfl : D = t := by simpa using e1
    exact nM h1
  refine lc_it w.wk (fun i H => ∃ m accv acc, Ok W B (fun _ _ => True) (fun a => M a ∨ a = D) (L2.wipe σ vs) H (dwipe δ vs) m ∧ FrS (pl W) H1 H ∧ H D = some (.lst accv) ∧ RepA W (fun a => M a ∨ a = D) H accv acc ∧ acc.length ≤ i ∧ I i acc m) ?_ ?_ ?_ ?_
  · exact ⟨m, [], [], (ok1.grow nD).any, FrS.refl.upd (.inl nD), upd_same, .nil, Nat.le_refl _, i0⟩
  · rintro i H hi ⟨m', accv, acc, ok', fr, _⟩
    exact w.gd _ H (ok.frM fr) (fun a (z : M a) => .inl z)
  · rintro i x H H' hi ⟨m', accv, acc, ok', fr, hD, ra, hl, inv⟩ y
    obtain ⟨s, r⟩ := w.yd (fun a => M a ∨ a = D) i H x H' hi (ok.frM fr) sub2 ok'.dom y
    have ok2 := ok'.expr (.of s) (pl_same ok'.plOf s)
    refine hg B _ _ _ H' _ m' x (f i) _ _ ok2 r (fun σ2 δ2 ok3 ew k => ⟨ew.trans (wipe_idem σ vs), ?_⟩) (is i acc m' hi inv)
    have frH : FrS (pl W) H H' := .of s
    have Dk : ∀ {Ha Hb : Hp} {o : HO}, FrS (pl W) Ha Hb → Ha D = some o → Hb D = some o := fun f e => f _ _ e nP
    refine ht B _ _ σ2 H' δ2 m' _ _ ok3 (fun b m2 H3 f3 p3 q => ite_split (fun z => ?_) (fun z => ?_)) k
    · refine he B _ _ σ2 H3 δ2 m2 _ _ (ok3.expr f3 p3) (fun y m3 v H4 f4 p4 ry q => ?_) (q.1 z)
      have f34 := (frH.trans f3).trans f4
      have ok4 := (ok2.expr f3 p3).expr f4 p4
      have fM : FrS (fun a => M a ∨ a = D) H H4 := ok'.frM f34
      refine ⟨accv, Dk f34 hD, by rw [ra.1]; exact lt_size2 (by omega), m3, accv ++ [v], acc ++ [y], ok4.put (.inr rfl) nB hs0, (fr.trans f34).upd (.inl nD), upd_same, ?_, by rw [List.length_append]; show acc.length + 1 ≤ i + 1; omega, q⟩
      exact ((ra.mono fM).append (.cons ry .nil)).mono (FrS.refl.upd (.inr (.inr rfl)))
    · have f23 := frH.trans f3
      exact ⟨m2, accv, acc, ok2.expr f3 p3, fr.trans f23, Dk f23 hD, ra.mono (ok'.frM f23), by omega, q.2 z⟩
  · rintro H ⟨m', accv, acc, ok', fr, hD, ra, hl, inv⟩
    exact c _ _ _ _ _ (f1.trans fr) ok'.plOf (none_fr f1 p1 nD) hD ra (id _ _ inv)
structure DTs (X : Cx) (W : Wo) (e : List Expr) (t : TT) (d : TDT) : Prop where
  pts : PTs X e t
  tr : TrT W t d
theorem dts_nil : DTs X W [] tYes dYes := ⟨pts_nil, fun B Φ M σ H δ n Q K ok c h => c _ _ _ .refl ok.plOf h⟩
theorem dts_one {c : Expr} {t : TT} {d : TDT} (h : DT X W c t d) : DTs X W [c] t d := ⟨pts_one h.pt, h.tr⟩
section
variable {elt tg iter : Expr} {ifs : List Expr} {scope : Scope} {own : List (Str × Nat)} {wi : TI} {it : TDI} {tt : TT} {dt : TDT} {te : TE} {de : TD}
theorem df_lc (hc : X.calm = true) (hN : X.N.Nodup) (hi : DI X W tg iter wi it) (ok : BlkOk X.N X.env.scope scope own)
    (hg : ∀ (s : Shared) (H : Hp) (C : Addr) (cl : List (Str × Addr)) (fp : List Addr), DG (X.blk s H scope (compEnvC scope cl C X.env) fp) W (own.map (·.2)) tg g dg) (ht : ∀ (s : Shared) (H : Hp) (C : Addr) (cl : List (Str × Addr)) (fp : List Addr), DTs (X.blk s H scope (compEnvC scope cl C X.env) fp) W ifs tt dt)
    (he : ∀ (s : Shared) (H : Hp) (C : Addr) (cl : List (Str × Addr)) (fp : List Addr), DE (X.blk s H scope (compEnvC scope cl C X.env) fp) W elt te de) (hs : ∀ x, foldedSetIterable iter X.env x = pure x := by intro _; rfl) :
    DF X W (.ListComp elt [⟨tg, iter, ifs, 0⟩] scope pos) (tLc wi g tt te (own.map (·.2))) (dLc it dg dt de (own.map (·.2))) :=
  ⟨pe_lc hc hN hi.pi ok (fun s H C cl fp => (hg s H C cl fp).pg) (fun s H C cl fp => (ht s H C cl fp).pts) (fun s H C cl fp => (he s H C cl fp).pe) hs,
    trF_lc _ hi.tr (hg X.s_0 X.H_0 0 [] []).tr (ht X.s_0 X.H_0 0 [] []).tr (he X.s_0 X.H_0 0 [] []).tr⟩
theorem ds_setLc {i : Nat} {y : Str} {py : Pos} {spos : Pos} (hc : X.calm = true) (hN : X.N.Nodup) (hy : X.N[i]? = some y) (hyl : X.env.scope.names.lookup y = some .local)
    (hsw : swapsWith (.ListComp elt [⟨tg, iter, ifs, 0⟩] scope pos) (some (.Name y py)) spos.line X.env = pure true) (hi : DI X W tg iter wi it) (ok : BlkOk X.N X.env.scope scope own)
    (hg : ∀ (s : Shared) (H : Hp) (C : Addr) (cl : List (Str × Addr)) (fp : List Addr), DG (X.blk s H scope (compEnvC scope cl C X.env) fp) W (own.map (·.2)) tg g dg) (ht : ∀ (s : Shared) (H : Hp) (C : Addr) (cl : List (Str × Addr)) (fp : List Addr), DTs (X.blk s H scope (compEnvC scope cl C X.env) fp) W ifs tt dt)
    (he : ∀ (s : Shared) (H : Hp) (C : Addr) (cl : List (Str × Addr)) (fp : List Addr), DE (X.blk s H scope (compEnvC scope cl C X.env) fp) W elt te de) (hs : ∀ x, foldedSetIterable iter X.env x = pure x := by intro _; rfl) :
    DS X W (.Assign [.Name y py] (.ListComp elt [⟨tg, iter, ifs, 0⟩] scope pos) spos) (tAsg (tLc wi g tt te (own.map (·.2))) (gName i)) (dSet i (dFE (dLc it dg dt de (own.map (·.2))))) :=
  ⟨ps_setLc hc hN hy hyl hsw hi.pi ok (fun s H C cl fp => (hg s H C cl fp).pg) (fun s H C cl fp => (ht s H C cl fp).pts) (fun s H C cl fp => (he s H C cl fp).pe) hs,
    trS_set i (trF_E (trF_lc _ hi.tr (hg X.s_0 X.H_0 0 [] []).tr (ht X.s_0 X.H_0 0 [] []).tr (he X.s_0 X.H_0 0 [] []).tr))⟩
theorem ds_setLcO {i : Nat} {y : Str} {py : Pos} {spos : Pos} (hc : X.calm = true) (hN : X.N.Nodup) (hy : X.N[i]? = some y) (hyl : X.env.scope.names.lookup y = some .local)
    (hsw : swapsWith (.ListComp elt [⟨tg, iter, ifs, 0⟩] scope pos) (some (.Name y py)) spos.line X.env = pure true) (hi : DI X W tg iter wi it) (ok : BlkOk X.N X.env.scope scope own)
    (hg : ∀ (s : Shared) (H : Hp) (C : Addr) (cl : List (Str × Addr)) (fp : List Addr), DG (X.blk s H scope (compEnvC scope cl C X.env) fp) W (own.map (·.2)) tg g dg) (ht : ∀ (s : Shared) (H : Hp) (C : Addr) (cl : List (Str × Addr)) (fp : List Addr), DTs (X.blk s H scope (compEnvC scope cl C X.env) fp) W ifs tt dt)
    (he : ∀ (s : Shared) (H : Hp) (C : Addr) (cl : List (Str × Addr)) (fp : List Addr), DE (X.blk s H scope (compEnvC scope cl C X.env) fp) W elt te de) (hs : ∀ x, foldedSetIterable iter X.env x = pure x := by intro _; rfl) :
    DS X W (.Assign [.Name y py] (.ListComp elt [⟨tg, iter, ifs, 0⟩] scope pos) spos) (tAsg (tLc wi g tt te (own.map (·.2))) (gName i)) (dSetO i (dLc it dg dt de (own.map (·.2)))) :=
  ⟨ps_setLc hc hN hy hyl hsw hi.pi ok (fun s H C cl fp => (hg s H C cl fp).pg) (fun s H C cl fp => (ht s H C cl fp).pts) (fun s H C cl fp => (he s H C cl fp).pe) hs,
    trS_setO i (trF_lc _ hi.tr (hg X.s_0 X.H_0 0 [] []).tr (ht X.s_0 X.H_0 0 [] []).tr (he X.s_0 X.H_0 0 [] []).tr)⟩
end
end

/-! ### readings without a heap: calls, and what a def is worth -/
abbrev Wo.at (W : Wo) (p : Option Addr) : Wo := { W with p := p }
abbrev FD := List DV → Nat → (DV → Nat → Prop) → Prop
/-- a def that is worth f -/
def spD (W : Wo) (f : FD) : Sp := fun vs H Q _ => ∃ (p : Option Addr) (M : Addr → Prop) (ds : List DV) (n : Nat) (K : DV → Nat → Prop), (∀ a, M a → IsL H a) ∧ (∀ a, p = some a → M a ∧ Well H a n) ∧ RepA (W.at p) M H vs ds ∧
  (∀ r m v H', FrS (pl (W.at p)) H H' → Pl (W.at p) H' m → Rep (W.at p) M H' v r → K r m → Q v H') ∧ f ds n K
/-- .. as a callee's promise -/
def RdFn (W : Wo) (sp : Sp) (f : FD) : Prop := ∀ (M : Addr → Prop) (H : Hp) (vs : List V) (ds : List DV) (n : Nat) (Q : VK) (E : XK) (K : DV → Nat → Prop), (∀ a, M a → IsL H a) → (∀ a, W.p = some a → M a ∧ Well H a n) → RepA W M H vs ds →
  (∀ r m v H', FrS (pl W) H H' → Pl W H' m → Rep W M H' v r → K r m → Q v H') → f ds n K → sp vs H Q E
theorem rd_spD {W0 W : Wo} {f : FD} (h : W0.at W.p = W) : RdFn W (spD W0 f) f := fun M H vs ds n Q E K d p r c q => ⟨W.p, M, ds, n, K, d, p, by rw [h]; exact r, by rw [h]; exact c, q⟩
def dCall (f : FD) (a : TDA) : TD := fun δ n K => a δ n fun xs m => f xs m K
def dstart (N : List Str) (ds : List DV) : En := ds.map (fun d => some (SV.dat d)) ++ List.replicate (N.length - ds.length) none
theorem start_get {N : List Str} {vs : List V} {i : Nat} {v : V} (h : vs[i]? = some v) : (L2.start N vs)[i]? = some (some v) := by
  unfold L2.start
  have hi := (List.getElem?_eq_some_iff.mp h).1
  rw [List.getElem?_append_left (by simpa using hi), List.getElem?_map, h]
  rfl
theorem dstart_get {N : List Str} {ds : List DV} {i : Nat} {s : SV} (h : (dstart N ds)[i]? = some (some s)) : ∃ d, ds[i]? = some d ∧ s = .dat d := by
  unfold dstart at h
  by_cases hi : i < ds.length
  · rw [List.getElem?_append_left (by simpa using hi), List.getElem?_map, List.getElem?_eq_getElem hi] at h
    have h2 : some (SV.dat ds[i]) = some s := Option.some.inj h
    exact ⟨ds[i], List.getElem?_eq_getElem hi, (Option.some.inj h2).symm⟩
  · rw [List.getElem?_append_right (by simpa using hi), List.getElem?_replicate] at h
    split at h
    · cases h
    · cases h
theorem ok_start {W : Wo} {M : Addr → Prop} {H : Hp} {vs : List V} {ds : List DV} {n : Nat} {N : List Str} (dm : ∀ a, M a → IsL H a) (p : ∀ a, W.p = some a → M a ∧ Well H a n) (r : RepA W M H vs ds) :
    Ok W M (fun M' H' => (∀ a, M' a → M a ∨ H a = none) ∧ FrS (pl W) H H') M (L2.start N vs) H (dstart N ds) n := by
  refine ⟨?_, fun i d e => ?_, fun i es e => ?_, fun i j es fs q e => ?_, fun a h => h, dm, p, ⟨fun a h => .inl h, .refl⟩, ?_⟩
  · unfold L2.start dstart
    simp [r.1]
  · obtain ⟨d2, e1, e2⟩ := dstart_get e
    obtain rfl : d = d2 := by simpa using e2
    obtain ⟨v, e3, r3⟩ := r.get e1
    exact ⟨v, start_get e3, r3⟩
  · obtain ⟨d2, e1, e2⟩ := dstart_get e
    cases e2
  · obtain ⟨d2, e1, e2⟩ := dstart_get e
    cases e2
  · rintro M1 H1 M2 H2 ⟨s1, f1⟩ ⟨l1, l2, l3⟩
    have up : ∀ a, H1 a = none → M a ∨ H a = none := fun a h => by
      by_cases z : W.p = some a
      · exact .inl (p a z).1
      · right
        cases e : H a with
        | none => rfl
        | some o =>
          rw [f1 a o e z] at h
          cases h
    refine ⟨fun a h => (l2 a h).elim (s1 a) (up a), fun b o e n => l1 b o (f1 b o e n) (fun z => ?_) n⟩
    rcases s1 b z.1 with q | q
    · exact z.2 q
    · rw [q] at e
      cases e
section
variable {P : Program} {w : World} {K : PySem.W.Frag} {mg : Str → Option Value} {base : Heap}
theorem okD {x qual : Str} {st : Stmt} {f : Addr} {fd : FuncData} {N ps : List Str} {k : Nat} (F : Fun K x qual st f fd) (S : FnScope N ps (defScope st)) (W : Wo) (g : FD) (len : ∀ ds n K, g ds n K → ds.length = ps.length)
    (body : ∀ (p : Option Addr) (cdv : Value) (A : Around) (outer : List Env) (s : Shared) (H : Hp) (E : XK), Room k (A.deeper (envOfC qual (defScope st) s.heap.objs.size f cdv)) →
      ∃ t d, DSs (cxOf CX0 P w K mg base N qual (defScope st) f cdv A outer s H E).nox (W.at p) (defBody st) t d ∧ ∀ ds n K, g ds n K → d { nx := fun _ m => K .non m, rt := K } (dstart N ds) n) : FnOk P w K mg base CX0 (k + 1) f fd ps (spD W g) := by
  refine F.ok S (fun vs H Q E h => ?_) (fun cdv A outer s H vs Q E hr h => ?_)
  · obtain ⟨p, M, ds, n, K, _, _, r, _, q⟩ := h
    rw [r.1]
    exact len _ _ _ q
  · obtain ⟨p, M, ds, n, KK, dm, pp, r, c, q⟩ := h
    obtain ⟨t, d, D, g2⟩ := body p cdv A outer s H E hr
    refine ⟨t, D.pss, D.tr M _ M _ H _ n _ _ (ok_start dm pp r) ⟨?_, ?_, ?_, ?_⟩ (g2 ds n KK q)⟩
    · exact fun M' σ H' δ m ok k => c _ _ _ _ ok.phi.2 ok.plOf .non k
    · exact fun M' H' v r m ph bs p' ra k => c _ _ _ _ ph.2 p' (ra.sub fun a h => .inl (bs a h)) k
    · exact fun _ _ _ _ _ _ h => h.elim
    · exact fun _ _ _ _ _ _ h => h.elim
theorem okGD {x qual : Str} {st : Stmt} {f : Addr} {fd : FuncData} {N ps : List Str} {k : Nat} (F : Fun K x qual st f fd) (S : FnScope N ps (defScope st)) (W : Wo) (g : FD) (len : ∀ ds n K, g ds n K → ds.length = ps.length)
    (body : ∀ (p : Option Addr) (cdv : Value) (A : Around) (outer : List Env) (s : Shared) (H : Hp) (E : XK), A.guards = some [] → Room k (A.deeper (envOfC qual (defScope st) s.heap.objs.size f cdv)) →
      ∃ t d, DSs (cxOf CX0 P w K mg base N qual (defScope st) f cdv A outer s H E).nox (W.at p) (defBody st) t d ∧ ∀ ds n K, g ds n K → d { nx := fun _ m => K .non m, rt := K } (dstart N ds) n) : FnG P w K mg base (k + 1) f fd ps (spD W g) := by
  refine okG F S (fun vs H Q E h => ?_) (fun cdv A outer s H vs Q E hgd hr h => ?_)
  · obtain ⟨p, M, ds, n, K, _, _, r, _, q⟩ := h
    rw [r.1]
    exact len _ _ _ q
  · obtain ⟨p, M, ds, n, KK, dm, pp, r, c, q⟩ := h
    obtain ⟨t, d, D, g2⟩ := body p cdv A outer s H E hgd hr
    refine ⟨t, D.pss, D.tr M _ M _ H _ n _ _ (ok_start dm pp r) ⟨?_, ?_, ?_, ?_⟩ (g2 ds n KK q)⟩
    · exact fun M' σ H' δ m ok k => c _ _ _ _ ok.phi.2 ok.plOf .non k
    · exact fun M' H' v r m ph bs p' ra k => c _ _ _ _ ph.2 p' (ra.sub fun a h => .inl (bs a h)) k
    · exact fun _ _ _ _ _ _ h => h.elim
    · exact fun _ _ _ _ _ _ h => h.elim
end
section
variable {X : Cx} {W : Wo} {e : Expr} {es : List Expr} {tA : TA} {dA : TDA} {sp : Sp} {f : FD} {ps : List Str} {fd : FuncData} {a : Addr} {k : Nat} {x : Str} {p pos : Pos}
theorem Ok.poolM {B M : Addr → Prop} {Φ : WPhi} {σ : L2.St} {H : Hp} {δ : En} {n : Nat} (ok : Ok W B Φ M σ H δ n) : ∀ a, W.p = some a → M a ∧ Well H a n := fun a e => ⟨ok.base a (ok.pool a e).1, (ok.pool a e).2⟩
theorem trE_call (rd : RdFn W sp f) (ha : TrA W tA dA) : TrE W (tCall sp [] E0 tA) (dCall f dA) := fun B Φ M σ H δ n Q K ok c q => ha B Φ M σ H δ n _ _ ok (fun ds m vs H1 f1 p1 ra q => by
  have ok1 := ok.expr f1 p1
  rw [List.append_nil]
  exact rd M H1 vs ds m Q E0 K ok1.dom ok1.poolM ra (fun r j v H' f2 p2 r2 k => c _ _ _ _ (f1.trans f2) p2 r2 k) q) q
theorem de_call (F : FnOk X.prog X.w X.K X.mg X.base CX0 k a fd ps sp) (rd : RdFn W sp f) (hr : Room k X.A) (hm : X.mg x = some (.ref a)) (hk : PySem.W.keepIn X.K (.ref a) = true) (hb : Binds X.K fd ps []) (ha : DA X W (e :: es) tA dA) (hg : Gl X x := by rfl)
    (hdb : (x == ("__debug__" : Str)) = false := by decide) (he : starEach (e :: es) X.env = (false, eval e X.env) :: starEach es X.env := by rfl) (hpl : (backTo pos (starEach es X.env)).any (·.1) = false := by rfl) :
    DE X W (.Call (.Name x p) (e :: es) [] pos) (tCall sp [] E0 tA) (dCall f dA) := ⟨pe_call F hr hg hm hk hb .nil pass0 ha.pa hdb he hpl, trE_call rd ha.tr⟩
theorem de_callG (F : FnG X.prog X.w X.K X.mg X.base k a fd ps sp) (rd : RdFn W sp f) (hgd : X.A.guards = some []) (hr : Room k X.A) (hm : X.mg x = some (.ref a)) (hk : PySem.W.keepIn X.K (.ref a) = true) (hb : Binds X.K fd ps []) (ha : DA X W (e :: es) tA dA) (hg : Gl X x := by rfl)
    (hdb : (x == ("__debug__" : Str)) = false := by decide) (he : starEach (e :: es) X.env = (false, eval e X.env) :: starEach es X.env := by rfl) (hpl : (backTo pos (starEach es X.env)).any (·.1) = false := by rfl) :
    DE X W (.Call (.Name x p) (e :: es) [] pos) (tCall sp [] E0 tA) (dCall f dA) := ⟨pe_callG F hgd hr hg hm hk hb ha.pa hdb he hpl, trE_call rd ha.tr⟩
/-- C(..) -/
theorem de_make {C i : Addr} (M : Mk X.K C i) (F : FnOk X.prog X.w X.K X.mg X.base CX0 k i fd ps sp) (rd : TrE W (tMake C sp [] E0 tA) (dCall f dA)) (hr : Room (k + 1) X.A) (hm : X.mg x = some (.ref C)) (hb : Binds X.K fd ps []) (ha : PA X (e :: es) tA) (hg : Gl X x := by rfl)
    (hdb : (x == ("__debug__" : Str)) = false := by decide) (he : starEach (e :: es) X.env = (false, eval e X.env) :: starEach es X.env := by rfl) (hpl : (backTo pos (starEach es X.env)).any (·.1) = false := by rfl) :
    DE X W (.Call (.Name x p) (e :: es) [] pos) (tMake C sp [] E0 tA) (dCall f dA) := ⟨pe_make M F hr hg hm hb .nil pass0 ha hdb he hpl, rd⟩
/-- a call of the pool's draw -/
def fDraw : FD := fun ds n K => match ds with
  | [.pool, .int m] => n ≤ 10 ^ 9 ∧ 0 < m ∧ m < 2 ^ 200 ∧ ∀ r : Int, 0 ≤ r → r < m → K (.int r) (n + 1)
  | _ => False
end

/-! ### rules as data -/
theorem laneF_inj {r n r' n' : Int} {m o g m' o' g' : Addr} (e3 : laneF r n m o g = laneF r' n' m' o' g') : m = m' ∧ o = o' ∧ g = g' := by
  refine ⟨?_, ?_, ?_⟩
  · have := congrArg (List.lookup ("marks" : Str)) e3
    rw [laneF_m, laneF_m] at this
    injection this with this
    injection this
  · have := congrArg (List.lookup ("offsets" : Str)) e3
    rw [laneF_o, laneF_o] at this
    injection this with this
    injection this
  · have := congrArg (List.lookup ("goals" : Str)) e3
    rw [laneF_g, laneF_g] at this
    injection this with this
    injection this
theorem ruF_inj {b c l b' c' l' : Addr} (e3 : ruF b c l = ruF b' c' l') : b = b' ∧ c = c' ∧ l = l' := by
  refine ⟨?_, ?_, ?_⟩
  · have := congrArg (List.lookup ("_base" : Str)) e3
    rw [ruF_b, ruF_b] at this
    injection this with this
    injection this
  · have := congrArg (List.lookup ("_changes" : Str)) e3
    rw [ruF_c, ruF_c] at this
    injection this with this
    injection this
  · have := congrArg (List.lookup ("_lanes" : Str)) e3
    rw [ruF_l, ruF_l] at this
    injection this with this
    injection this
def LaneS (L : Addr) (M : Addr → Prop) (H : Hp) (a : Addr) (r n off : Int) (ks : List (Int × Int)) : Prop := ∃ dx m o g, H a = some (.ins L dx (laneF r n m o g)) ∧ H m = some (.lst ((ks.map (·.1)).map V.int)) ∧ H o = some (.lst ((off :: ks.map (·.2)).map V.int)) ∧
  H g = some (.lst ((ks.map fun k => k.1 + k.2).map V.int)) ∧ ¬ M a ∧ ¬ M m ∧ ¬ M o ∧ ¬ M g
theorem laneS_of {L av : Addr} {M : Addr → Prop} {H : Hp} {a : Addr} {r n off : Int} {ks : List (Int × Int)} (h : LaneAt L av H a r n off ks) (g : ∀ b, M b → LaneAt L b H a r n off ks) : LaneS L (fun b => b = av ∨ M b) H a r n off ks := by
  obtain ⟨dx, m, o, g0, h1, h2, h3, h4, n1, n2, n3, n4⟩ := h
  have key : ∀ b, M b → a ≠ b ∧ m ≠ b ∧ o ≠ b ∧ g0 ≠ b := fun b hb => by
    obtain ⟨dx', m', o', g', k1, k2, k3, k4, l1, l2, l3, l4⟩ := g b hb
    rw [h1] at k1
    have e := Option.some.inj k1
    injection e with e1 e2 e3
    obtain ⟨rfl, rfl, rfl⟩ := laneF_inj e3
    exact ⟨l1, l2, l3, l4⟩
  exact ⟨dx, m, o, g0, h1, h2, h3, h4, fun z => z.elim n1 fun z => (key _ z).1 rfl, fun z => z.elim n2 fun z => (key _ z).2.1 rfl, fun z => z.elim n3 fun z => (key _ z).2.2.1 rfl, fun z => z.elim n4 fun z => (key _ z).2.2.2 rfl⟩
theorem LaneS.fr {L : Addr} {M : Addr → Prop} {H H' : Hp} {a : Addr} {r n off : Int} {ks : List (Int × Int)} (h : LaneS L M H a r n off ks) (f : FrS M H H') : LaneS L M H' a r n off ks := by
  obtain ⟨dx, m, o, g, h1, h2, h3, h4, n1, n2, n3, n4⟩ := h
  exact ⟨dx, m, o, g, f _ _ h1 n1, f _ _ h2 n2, f _ _ h3 n3, f _ _ h4 n4, n1, n2, n3, n4⟩
theorem LaneS.sub {L : Addr} {M M' : Addr → Prop} {H : Hp} {a : Addr} {r n off : Int} {ks : List (Int × Int)} (h : LaneS L M H a r n off ks) (s : ∀ b, M' b → M b ∨ H b = none) : LaneS L M' H a r n off ks := by
  obtain ⟨dx, m, o, g, h1, h2, h3, h4, n1, n2, n3, n4⟩ := h
  have nn : ∀ {q o}, H q = some o → ¬ M q → ¬ M' q := fun e n z => by
    rcases s _ z with z | z
    · exact n z
    · rw [z] at e
      cases e
  exact ⟨dx, m, o, g, h1, h2, h3, h4, nn h1 n1, nn h2 n2, nn h3 n3, nn h4 n4⟩
theorem LaneS.at_ {L b : Addr} {M : Addr → Prop} {H : Hp} {a : Addr} {r n off : Int} {ks : List (Int × Int)} (h : LaneS L M H a r n off ks) (hb : M b) : LaneAt L b H a r n off ks := by
  obtain ⟨dx, m, o, g, h1, h2, h3, h4, n1, n2, n3, n4⟩ := h
  exact ⟨dx, m, o, g, h1, h2, h3, h4, fun z => n1 (by rw [z]; exact hb), fun z => n2 (by rw [z]; exact hb), fun z => n3 (by rw [z]; exact hb), fun z => n4 (by rw [z]; exact hb)⟩
/-- a rule at x, apart from M -/
def RuS (R L : Addr) (M : Addr → Prop) (H : Hp) (x : Addr) (bs : List Int) (cs : List (Int × Int)) : Prop := ∃ (dx b c l : Addr) (ts las : List Addr), H x = some (.ins R dx (ruF b c l)) ∧ H b = some (.lst (bs.map V.int)) ∧ H c = some (.lst (ts.map V.ref)) ∧ Tups H ts cs ∧ H l = some (.lst (las.map V.ref)) ∧ las.length = bs.length ∧
  (∀ (i : Nat) (a : Addr) (v : Int), las[i]? = some a → bs[i]? = some v → LaneS L M H a i bs.length v (share cs bs.length i)) ∧ ¬ M x ∧ ¬ M b ∧ ¬ M c ∧ ¬ M l ∧ ∀ t ∈ ts, ¬ M t
theorem refs_inj {xs ys : List Addr} (h : xs.map V.ref = ys.map V.ref) : xs = ys := (List.map_inj_right fun a b e => V.ref.inj e).mp h
theorem ruS_of {R L av : Addr} {M : Addr → Prop} {H : Hp} {x : Addr} {bs : List Int} {cs : List (Int × Int)} (h : RuAt R L av H x bs cs) (g : ∀ a, M a → RuAt R L a H x bs cs) : RuS R L (fun b => b = av ∨ M b) H x bs cs := by
  obtain ⟨dx, b, c, l, ts, las, h1, h2, h3, h4, h5, h6, h7, n1, n2, n3, n4, n5⟩ := h
  have key : ∀ d, M d → (∀ (i : Nat) (a : Addr) (v : Int), las[i]? = some a → bs[i]? = some v → LaneAt L d H a i bs.length v (share cs bs.length i)) ∧ x ≠ d ∧ b ≠ d ∧ c ≠ d ∧ l ≠ d ∧ ∀ t ∈ ts, t ≠ d := fun d hd => by
    obtain ⟨dx', b', c', l', ts', las', k1, k2, k3, k4, k5, k6, k7, m1, m2, m3, m4, m5⟩ := g d hd
    rw [h1] at k1
    have e := Option.some.inj k1
    injection e with e1 e2 e3
    obtain ⟨rfl, rfl, rfl⟩ := ruF_inj e3
    rw [h3] at k3
    have e := Option.some.inj k3
    injection e with e
    obtain rfl := refs_inj e
    rw [h5] at k5
    have e := Option.some.inj k5
    injection e with e
    obtain rfl := refs_inj e
    exact ⟨k7, m1, m2, m3, m4, m5⟩
  exact ⟨dx, b, c, l, ts, las, h1, h2, h3, h4, h5, h6, fun i a v e1 e2 => laneS_of (h7 i a v e1 e2) fun d hd => (key d hd).1 i a v e1 e2, fun z => z.elim n1 fun z => (key _ z).2.1 rfl, fun z => z.elim n2 fun z => (key _ z).2.2.1 rfl,
    fun z => z.elim n3 fun z => (key _ z).2.2.2.1 rfl, fun z => z.elim n4 fun z => (key _ z).2.2.2.2.1 rfl, fun t ht z => z.elim (n5 t ht) fun z => (key _ z).2.2.2.2.2 t ht rfl⟩
theorem tups_apart {M : Addr → Prop} {H H' : Hp} : ∀ {ts : List Addr} {ms : List (Int × Int)}, Tups H ts ms → FrS M H H' → (∀ t ∈ ts, ¬ M t) → Tups H' ts ms
  | [], [], _, _, _ => trivial
  | _ :: _, _ :: _, h, f, n => ⟨f _ _ h.1 (n _ List.mem_cons_self), tups_apart h.2 f fun t m => n t (List.mem_cons_of_mem _ m)⟩
theorem RuS.fr {R L : Addr} {M : Addr → Prop} {H H' : Hp} {x : Addr} {bs : List Int} {cs : List (Int × Int)} (h : RuS R L M H x bs cs) (f : FrS M H H') : RuS R L M H' x bs cs := by
  obtain ⟨dx, b, c, l, ts, las, h1, h2, h3, h4, h5, h6, h7, n1, n2, n3, n4, n5⟩ := h
  exact ⟨dx, b, c, l, ts, las, f _ _ h1 n1, f _ _ h2 n2, f _ _ h3 n3, tups_apart h4 f n5, f _ _ h5 n4, h6, fun i a v e1 e2 => (h7 i a v e1 e2).fr f, n1, n2, n3, n4, n5⟩
theorem tups_mem {H : Hp} : ∀ {ts : List Addr} {ms : List (Int × Int)}, Tups H ts ms → ∀ t ∈ ts, ∃ o, H t = some o
  | _ :: _, _ :: _, h, t, ht => by
    rcases List.mem_cons.mp ht with rfl | ht
    · exact ⟨_, h.1⟩
    · exact tups_mem h.2 t ht
theorem RuS.sub {R L : Addr} {M M' : Addr → Prop} {H : Hp} {x : Addr} {bs : List Int} {cs : List (Int × Int)} (h : RuS R L M H x bs cs) (s : ∀ b, M' b → M b ∨ H b = none) : RuS R L M' H x bs cs := by
  obtain ⟨dx, b, c, l, ts, las, h1, h2, h3, h4, h5, h6, h7, n1, n2, n3, n4, n5⟩ := h
  have nn : ∀ {q o}, H q = some o → ¬ M q → ¬ M' q := fun e n z => by
    rcases s _ z with z | z
    · exact n z
    · rw [z] at e
      cases e
  exact ⟨dx, b, c, l, ts, las, h1, h2, h3, h4, h5, h6, fun i a v e1 e2 => (h7 i a v e1 e2).sub s, nn h1 n1, nn h2 n2, nn h3 n3, nn h5 n4, fun t ht => by
    obtain ⟨o, e⟩ := tups_mem h4 t ht
    exact nn e (n5 t ht)⟩
theorem RuS.at_ {R L d : Addr} {M : Addr → Prop} {H : Hp} {x : Addr} {bs : List Int} {cs : List (Int × Int)} (h : RuS R L M H x bs cs) (hd : M d) : RuAt R L d H x bs cs := by
  obtain ⟨dx, b, c, l, ts, las, h1, h2, h3, h4, h5, h6, h7, n1, n2, n3, n4, n5⟩ := h
  exact ⟨dx, b, c, l, ts, las, h1, h2, h3, h4, h5, h6, fun i a v e1 e2 => (h7 i a v e1 e2).at_ hd, fun z => n1 (by rw [z]; exact hd), fun z => n2 (by rw [z]; exact hd), fun z => n3 (by rw [z]; exact hd), fun z => n4 (by rw [z]; exact hd), fun t ht z => n5 t ht (by rw [z]; exact hd)⟩
/-- what a rule is told by -/
structure RuOk (bs : List Int) (cs : List (Int × Int)) : Prop where
  l0 : 0 < bs.length
  l1 : bs.length ≤ 12
  asc : cs.Pairwise fun a b => a.1 < b.1
  rise : RisesC bs cs
  norm : (tell bs cs).2 = cs
def obR (R L : Addr) : (Addr → Prop) → Hp → Addr → OV → Prop := fun M H x o => match o with
  | .rul bs cs => (∃ av, RuS R L (fun b => b = av ∨ M b) H x bs cs) ∧ RuOk bs cs
  | .cls => x = R
  | _ => False
def Wr (R L : Addr) : Wo where
  p := none
  ob := obR R L
  mono := fun {M H H' x o} h f => by
    cases o with
    | rul bs cs =>
      obtain ⟨⟨av, h⟩, k⟩ := h
      exact ⟨⟨av, h.fr (f.mono fun b hb => .inr hb)⟩, k⟩
    | cal _ _ => exact h.elim
    | cls => exact h
  sub := fun {M M' H x o} h s => by
    cases o with
    | rul bs cs =>
      obtain ⟨⟨av, h⟩, k⟩ := h
      exact ⟨⟨av, h.sub fun b hb => hb.elim (fun z => .inl (.inl z)) fun z => (s b z).imp .inr id⟩, k⟩
    | cal _ _ => exact h.elim
    | cls => exact h
section
variable {R L : Addr} {p : Option Addr} {M : Addr → Prop} {H H' : Hp}
theorem rul_inv {v : V} {bs : List Int} {cs : List (Int × Int)} (h : Rep ((Wr R L).at p) M H v (.obj (.rul bs cs))) : ∃ x av, v = .ref x ∧ RuAt R L av H x bs cs ∧ RuOk bs cs := by
  cases h with
  | obj h =>
    obtain ⟨⟨av, h⟩, k⟩ := h
    exact ⟨_, av, rfl, h.at_ (.inl rfl), k⟩
theorem RuOk.ascL {bs : List Int} {cs : List (Int × Int)} (h : RuOk bs cs) : Asc cs := List.pairwise_map.mpr (h.asc.imp fun q => Int.le_of_lt q)
/-- a list of changes as data -/
def dPr (m : Int × Int) : DV := .tup [.int m.1, .int m.2]
def dInt (xs : List Int) : DV := .lst (xs.map DV.int)
def dPrs (ms : List (Int × Int)) : DV := .lst (ms.map dPr)
theorem tups_rep {W : Wo} {ts : List Addr} {ms : List (Int × Int)} (h : Tups H ts ms) (n : ∀ t ∈ ts, ¬ M t) : RepA W M H (ts.map V.ref) (ms.map dPr) := by
  induction ts generalizing ms with
  | nil =>
    cases ms with
    | nil => exact .nil
    | cons m ms => exact h.elim
  | cons t ts ih =>
    cases ms with
    | nil => exact h.elim
    | cons m ms =>
      refine .cons ?_ (ih h.2 fun t ht => n t (List.mem_cons_of_mem _ ht))
      have r : RepA W M H [V.int m.1, V.int m.2] [.int m.1, .int m.2] := .cons (.int _) (.cons (.int _) .nil)
      exact .tup h.1 (n t List.mem_cons_self) r.1 r.2
theorem prs_inv {W : Wo} {vs : List V} {ms : List (Int × Int)} (h : RepA W M H vs (ms.map dPr)) : ∃ ts, vs = ts.map V.ref ∧ Tups H ts ms ∧ ∀ t ∈ ts, ¬ M t := by
  induction ms generalizing vs with
  | nil => exact ⟨[], h.nil_inv, trivial, fun t ht => nomatch ht⟩
  | cons m ms ih =>
    obtain ⟨v, us, rfl, h1, h2⟩ := h.cons_inv
    obtain ⟨ts, rfl, tp, nt⟩ := ih h2
    obtain ⟨q, ws, rfl, hq, nq, r⟩ := h1.tup_inv
    obtain ⟨a, xs, rfl, ra, r⟩ := r.cons_inv
    obtain ⟨b, rfl, rb⟩ := r.one_inv
    rw [ra.int_inv, rb.int_inv] at hq
    refine ⟨q :: ts, rfl, ⟨hq, tp⟩, fun t ht => ?_⟩
    rcases List.mem_cons.mp ht with rfl | ht
    · exact nq
    · exact nt t ht
/-- the answer, the offset -/
def fAns : FD := fun ds n K => match ds with
  | [.obj (.rul bs cs), .int t] => K (.int (t + offAt bs cs t)) n
  | _ => False
def fOff : FD := fun ds n K => match ds with
  | [.obj (.rul bs cs), .int t] => K (.int (offAt bs cs t)) n
  | _ => False
theorem poolPl {W : Wo} {n : Nat} (p : ∀ a, W.p = some a → M a ∧ Well H a n) : Pl W H n := fun a e => (p a e).2
theorem rd_ans : RdFn ((Wr R L).at p) (spRuAns R L) fAns := fun M H vs ds n Q E K dm pp r c h => by
  unfold fAns at h
  split at h
  · obtain ⟨v, us, rfl, r1, rs⟩ := r.cons_inv
    obtain ⟨u, rfl, r2⟩ := rs.one_inv
    obtain ⟨x, av, rfl, ru, k⟩ := rul_inv r1
    exact ⟨x, av, _, _, _, by rw [r2.int_inv], ru, k.l0, k.ascL, c _ _ _ _ .refl (poolPl pp) (.int _) h⟩
  · exact h.elim
theorem rd_off : RdFn ((Wr R L).at p) (spRuOff R L) fOff := fun M H vs ds n Q E K dm pp r c h => by
  unfold fOff at h
  split at h
  · obtain ⟨v, us, rfl, r1, rs⟩ := r.cons_inv
    obtain ⟨u, rfl, r2⟩ := rs.one_inv
    obtain ⟨x, av, rfl, ru, k⟩ := rul_inv r1
    exact ⟨x, av, _, _, _, by rw [r2.int_inv], ru, k.l0, k.ascL, c _ _ _ _ .refl (poolPl pp) (.int _) h⟩
  · exact h.elim
/-- its properties -/
def fWeek : DV → (DV → Prop) → Prop := fun x K => match x with
  | .obj (.rul bs _) => K (.int (bs.length : Nat))
  | _ => False
def fBase : DV → (List DV → Prop) → Prop := fun x K => match x with
  | .obj (.rul bs _) => K (bs.map DV.int)
  | _ => False
def fChanges : DV → (List DV → Prop) → Prop := fun x K => match x with
  | .obj (.rul _ cs) => K (cs.map dPr)
  | _ => False
def dP (f : DV → (DV → Prop) → Prop) (a : TD) : TD := fun δ n K => a δ n fun x m => f x fun z => K z m
def dPF (f : DV → (List DV → Prop) → Prop) (a : TD) : TDA := fun δ n K => a δ n fun x m => f x fun z => K z m
end

/-! ### the offset at a moment, as a law finds it -/
def lawStep (n t : Int) (f : Int) (c : Int × Int) : Int := if c.1 ≤ t ∧ (t - c.1) % n = 0 then c.2 else f
def lawOff (bs : List Int) (cs : List (Int × Int)) (t : Int) : Int := cs.foldl (lawStep bs.length t) (wkOff bs t)
def lastOff (off : Int) (ks : List (Int × Int)) (t : Int) : Int := ks.foldl (fun f k => if k.1 ≤ t then k.2 else f) off
theorem snoc_ind {α : Type} {P : List α → Prop} (h0 : P []) (h1 : ∀ xs x, P xs → P (xs ++ [x])) : ∀ xs, P xs := fun xs => by
  have h : ∀ ys : List α, P ys.reverse := fun ys => by
    induction ys with
    | nil => exact h0
    | cons y ys ih =>
      rw [List.reverse_cons]
      exact h1 _ _ ih
  have := h xs.reverse
  rw [List.reverse_reverse] at this
  exact this
theorem countUpto_all {ns : List Int} {v : Int} (h : ∀ n ∈ ns, n ≤ v) : countUpto ns v = ns.length := by
  unfold countUpto
  rw [List.filter_eq_self.mpr fun n hn => decide_eq_true (h n hn)]
theorem laneOff_last {off t : Int} : ∀ ks : List (Int × Int), (ks.map (·.1)).Pairwise (· ≤ ·) → laneOff off ks t = lastOff off ks t := by
  refine snoc_ind (fun _ => rfl) fun ks k ih asc => ?_
  rw [List.map_append, List.pairwise_append] at asc
  obtain ⟨a1, _, a3⟩ := asc
  have e : lastOff off (ks ++ [k]) t = if k.1 ≤ t then k.2 else lastOff off ks t := by
    unfold lastOff
    rw [List.foldl_append]
    rfl
  rw [e]
  have cnt : countUpto ((ks ++ [k]).map (·.1)) t = countUpto (ks.map (·.1)) t + (if k.1 ≤ t then 1 else 0) := by
    unfold countUpto
    rw [List.map_append, List.filter_append, List.length_append]
    congr 1
    by_cases q : k.1 ≤ t
    · simp [q]
    · simp [q]
  have cl : countUpto (ks.map (·.1)) t ≤ ks.length := by
    unfold countUpto
    refine Nat.le_trans (List.length_filter_le _ _) ?_
    rw [List.length_map]
    exact Nat.le_refl _
  by_cases q : k.1 ≤ t
  · rw [if_pos q]
    have all : countUpto (ks.map (·.1)) t = ks.length := by
      rw [countUpto_all fun n hn => ?_, List.length_map]
      have := a3 n hn k.1 (by simp)
      omega
    unfold laneOff
    rw [cnt, if_pos q, all, List.map_append, ← List.cons_append, List.getD_eq_getElem?_getD, List.getElem?_append_right (by simp)]
    simp
  · rw [if_neg q, ← ih a1]
    unfold laneOff
    rw [cnt, if_neg q, Nat.add_zero, List.map_append, ← List.cons_append, List.getD_eq_getElem?_getD, List.getD_eq_getElem?_getD, List.getElem?_append_left (by simp; omega)]
theorem mod_lane {n t m : Int} (hn : 0 < n) : m % n = t % n ↔ (t - m) % n = 0 := by
  rw [Int.emod_eq_emod_iff_emod_sub_eq_zero]
  constructor
  · intro h
    have : n ∣ m - t := Int.dvd_of_emod_eq_zero h
    have h2 : n ∣ t - m := by
      have := Int.dvd_neg.mpr this
      rwa [Int.neg_sub] at this
    exact Int.emod_eq_zero_of_dvd h2
  · intro h
    have : n ∣ t - m := Int.dvd_of_emod_eq_zero h
    have h2 : n ∣ m - t := by
      have := Int.dvd_neg.mpr this
      rwa [Int.neg_sub] at this
    exact Int.emod_eq_zero_of_dvd h2
theorem share_fold {n t : Int} (hn : 0 < n) : ∀ (cs : List (Int × Int)) (off : Int), lastOff off (share cs n (t % n)) t = cs.foldl (lawStep n t) off
  | [], _ => rfl
  | c :: cs, off => by
    unfold share
    rw [List.filter_cons, List.foldl_cons]
    have ml := mod_lane (n := n) (t := t) (m := c.1) hn
    by_cases q : c.1 % n = t % n
    · rw [if_pos (decide_eq_true q)]
      have e : lawStep n t off c = if c.1 ≤ t then c.2 else off := by
        unfold lawStep
        by_cases z : c.1 ≤ t
        · rw [if_pos ⟨z, ml.mp q⟩, if_pos z]
        · rw [if_neg (fun w => z w.1), if_neg z]
      rw [e]
      exact share_fold hn cs _
    · rw [if_neg (by rw [decide_eq_false q]; decide)]
      have e : lawStep n t off c = off := by
        unfold lawStep
        rw [if_neg fun w => q (ml.mpr w.2)]
      rw [e]
      exact share_fold hn cs _
/-- the rule's own offset is the law's -/
theorem offAt_law {bs : List Int} {cs : List (Int × Int)} (l0 : 0 < bs.length) (asc : Asc cs) (t : Int) : offAt bs cs t = lawOff bs cs t := by
  unfold offAt lawOff
  rw [laneOff_last _ (asc.share _ _), share_fold (by omega)]
theorem lawOff_snoc (bs : List Int) (cs : List (Int × Int)) (c : Int × Int) (t : Int) : lawOff bs (cs ++ [c]) t = lawStep bs.length t (lawOff bs cs t) c := by
  unfold lawOff
  rw [List.foldl_append]
  rfl
/-- behind all changes the week's last offsets hold -/
theorem tell_week {bs : List Int} (l0 : 0 < bs.length) : ∀ (cs : List (Int × Int)) (t : Int), (∀ c ∈ cs, c.1 ≤ t) → lawOff bs cs t = (tell bs cs).1.getD (t % bs.length).toNat 0 := by
  refine snoc_ind (fun t _ => rfl) fun cs c ih t h => ?_
  have hn : (0 : Int) < bs.length := by omega
  have wl := tell_len bs cs
  rw [lawOff_snoc, tell_snoc, ih t fun d hd => h d (List.mem_append_left _ hd)]
  have hc := h c (List.mem_append_right _ List.mem_cons_self)
  unfold lawStep tellStep
  have ml := mod_lane (n := bs.length) (t := t) (m := c.1) hn
  have a0 := Int.emod_nonneg t (show (bs.length : Int) ≠ 0 by omega)
  have a1 := Int.emod_lt_of_pos t hn
  have b0 := Int.emod_nonneg c.1 (show (bs.length : Int) ≠ 0 by omega)
  have b1 := Int.emod_lt_of_pos c.1 hn
  show _ = ((tell bs cs).1.set (c.1 % bs.length).toNat c.2).getD (t % bs.length).toNat 0
  rw [List.getD_eq_getElem?_getD (l := (tell bs cs).1.set _ _)]
  by_cases q : c.1 % (bs.length : Int) = t % bs.length
  · rw [if_pos ⟨hc, ml.mp q⟩, q, List.getElem?_set_self (by omega)]
    rfl
  · rw [if_neg (fun w => q (ml.mpr w.2)), List.getElem?_set_ne (by omega), ← List.getD_eq_getElem?_getD]
/-- idle changes change nothing -/
theorem tell_law {bs : List Int} (l0 : 0 < bs.length) : ∀ cs : List (Int × Int), (cs.Pairwise fun a b => a.1 < b.1) → ∀ t, lawOff bs (tell bs cs).2 t = lawOff bs cs t := by
  refine snoc_ind (fun _ t => rfl) fun cs c ih asc t => ?_
  have hn : (0 : Int) < bs.length := by omega
  rw [List.pairwise_append] at asc
  obtain ⟨a1, _, a3⟩ := asc
  rw [lawOff_snoc, tell_snoc]
  unfold tellStep
  show lawOff bs (if c.2 = (tell bs cs).1.getD (c.1 % bs.length).toNat 0 then (tell bs cs).2 else (tell bs cs).2 ++ [c]) t = _
  by_cases q : c.2 = (tell bs cs).1.getD (c.1 % bs.length).toNat 0
  · rw [if_pos q, ih a1 t]
    unfold lawStep
    by_cases z : c.1 ≤ t ∧ (t - c.1) % (bs.length : Int) = 0
    · rw [if_pos z, tell_week l0 cs t fun d hd => by have := a3 d hd c (by simp); omega, q, (mod_lane hn).mpr z.2]
    · rw [if_neg z]
  · rw [if_neg q, lawOff_snoc, ih a1 t]
/-- so a rule told with changes answers as the law says -/
theorem offAt_tell {bs : List Int} {cs : List (Int × Int)} (l0 : 0 < bs.length) (asc : cs.Pairwise fun a b => a.1 < b.1) (t : Int) : offAt bs (tell bs cs).2 t = lawOff bs cs t := by
  rw [offAt_law l0 (tell_asc asc), tell_law l0 cs asc]
/-- the changes that are needed, as a law finds them -/
def needed (bs : List Int) (cs : List (Int × Int)) : List (Int × Int) := cs.filter fun c => !decide (lawOff bs (cs.filter fun d => decide (d.1 < c.1)) c.1 = c.2)
theorem tell_needed {bs : List Int} (l0 : 0 < bs.length) : ∀ cs : List (Int × Int), (cs.Pairwise fun a b => a.1 < b.1) → (tell bs cs).2 = needed bs cs := by
  refine snoc_ind (fun _ => rfl) fun cs c ih asc => ?_
  rw [List.pairwise_append] at asc
  obtain ⟨a1, _, a3⟩ := asc
  have last : (cs ++ [c]).filter (fun d => decide (d.1 < c.1)) = cs := by
    rw [List.filter_append, List.filter_eq_self.mpr fun d hd => decide_eq_true (a3 d hd c (by simp))]
    simp
  have same : ∀ x ∈ cs, (cs ++ [c]).filter (fun d => decide (d.1 < x.1)) = cs.filter fun d => decide (d.1 < x.1) := fun x hx => by
    have := a3 x hx c (by simp)
    rw [List.filter_append, List.filter_cons, if_neg (by rw [decide_eq_false (by omega)]; decide), List.filter_nil, List.append_nil]
  have e : needed bs (cs ++ [c]) = needed bs cs ++ if c.2 = (tell bs cs).1.getD (c.1 % bs.length).toNat 0 then [] else [c] := by
    unfold needed
    rw [List.filter_append]
    congr 1
    · exact List.filter_congr fun x hx => by rw [same x hx]
    · rw [List.filter_cons, List.filter_nil, last, tell_week l0 cs c.1 fun d hd => by have := a3 d hd c (by simp); omega]
      by_cases q : c.2 = (tell bs cs).1.getD (c.1 % bs.length).toNat 0
      · rw [if_pos q, if_neg (by rw [decide_eq_true q.symm]; decide)]
      · rw [if_neg q, if_pos (by rw [decide_eq_false fun z => q z.symm]; rfl)]
  rw [e, tell_snoc, ← ih a1]
  unfold tellStep
  show (if c.2 = (tell bs cs).1.getD (c.1 % bs.length).toNat 0 then (tell bs cs).2 else (tell bs cs).2 ++ [c]) = _
  by_cases q : c.2 = (tell bs cs).1.getD (c.1 % bs.length).toNat 0
  · rw [if_pos q, if_pos q, List.append_nil]
  · rw [if_neg q, if_neg q]

theorem tell_idem {bs : List Int} (l0 : 0 < bs.length) : ∀ cs : List (Int × Int), tell bs (tell bs cs).2 = tell bs cs := by
  refine snoc_ind rfl fun cs c ih => ?_
  have wl := tell_len bs cs
  have b0 := Int.emod_nonneg c.1 (show (bs.length : Int) ≠ 0 by omega)
  have b1 := Int.emod_lt_of_pos c.1 (show (0 : Int) < bs.length by omega)
  rw [tell_snoc]
  show tell bs (tellStep bs.length (tell bs cs) c).2 = _
  unfold tellStep
  show tell bs (if c.2 = (tell bs cs).1.getD (c.1 % bs.length).toNat 0 then (tell bs cs).2 else (tell bs cs).2 ++ [c]) = _
  by_cases q : c.2 = (tell bs cs).1.getD (c.1 % bs.length).toNat 0
  · rw [if_pos q, ih, q]
    have hr : (c.1 % (bs.length : Int)).toNat < (tell bs cs).1.length := by omega
    have e : (tell bs cs).1.set (c.1 % bs.length).toNat ((tell bs cs).1.getD (c.1 % bs.length).toNat 0) = (tell bs cs).1 := by
      rw [List.getD_eq_getElem?_getD, List.getElem?_eq_getElem hr]
      exact List.set_getElem_self hr
    rw [e]
  · rw [if_neg q, tell_snoc, ih]
    unfold tellStep
    rw [if_neg q]
def fRule : FD := fun ds n K => ∃ bs cs, ds = [dInt bs, dPrs cs] ∧ 0 < bs.length ∧ bs.length ≤ 12 ∧ cs.length ≤ 150 ∧ (cs.Pairwise fun a b => a.1 < b.1) ∧ RisesC bs (tell bs cs).2 ∧ K (.obj (.rul bs (tell bs cs).2)) n
section
variable {R L : Addr} {p : Option Addr} {X : Cx} {e : Expr} {es : List Expr} {tA : TA} {dA : TDA} {ta : TE} {da : TD} {pos : Pos} {k : Nat} {a : Addr} {fd : FuncData} {ps : List Str}
theorem ruOk_of {bs : List Int} {cs : List (Int × Int)} (l0 : 0 < bs.length) (l1 : bs.length ≤ 12) (asc : cs.Pairwise fun a b => a.1 < b.1) (rise : RisesC bs (tell bs cs).2) : RuOk bs (tell bs cs).2 :=
  ⟨l0, l1, asc.sublist (tell_sub bs cs), rise, by rw [tell_idem l0]⟩
theorem trE_rule {K0 : PySem.W.Frag} (ha : TrA ((Wr R L).at p) tA dA) : TrE ((Wr R L).at p) (tMake R (spRuI R L K0) [] E0 tA) (dCall fRule dA) := fun B Φ M σ H δ n Q K ok c q => ha B Φ M σ H δ n _ _ ok (fun ds m vs H1 f1 p1 ra q x dx nx ndx dn => by
  obtain ⟨bs, cs, rfl, l0, l1, l2, asc, rise, q⟩ := q
  obtain ⟨va, us, rfl, r1, rs⟩ := ra.cons_inv
  obtain ⟨vc, rfl, r2⟩ := rs.one_inv
  obtain ⟨a, vs1, rfl, ha1, na, ra1⟩ := r1.lst_inv
  obtain ⟨b, vs2, rfl, hb1, nb, ra2⟩ := r2.lst_inv
  obtain rfl := ra1.ints
  obtain ⟨ts, rfl, tp, nt⟩ := prs_inv ra2
  have dom := (ok.expr f1 p1).dom
  have s0 : Same H1 (upd (upd H1 dx (.own x)) x (.ins R dx [])) := fun c o e => by
    rw [upd_ne (ne_of_none e nx), upd_ne (ne_of_none e ndx)]
    exact e
  rw [List.append_nil]
  refine ⟨x, dx, a, b, bs, ts, cs, rfl, upd_same, (by rw [upd_ne dn]; exact upd_same), dn, SqL.of (s0 _ _ ha1), SqL.of (s0 _ _ hb1), tp.same s0, ne_of_none ha1 nx, ne_of_none hb1 nx, l0, l1, l2, asc, rise, fun H2 ru f => ⟨rfl, ?_⟩⟩
  have s2 : Same H1 H2 := fun c o e => f _ _ (s0 _ _ e) (ne_of_none e nx)
  have hdx : upd (upd H1 dx (.own x)) x (.ins R dx []) dx = some (.own x) := by rw [upd_ne dn]; exact upd_same
  have old : ∀ d, M d → RuAt R L d H2 x bs (tell bs cs).2 := fun d hd => by
    obtain ⟨us, e⟩ := dom d hd
    exact ru d _ (s0 _ _ e) (ne_of_none e nx)
  exact c (.obj (.rul bs (tell bs cs).2)) _ _ _ (f1.trans (.of s2)) (pl_same p1 s2) (.obj ⟨⟨dx, ruS_of (ru dx _ hdx dn) old⟩, ruOk_of l0 l1 asc rise⟩) q) q
theorem trE_week (ha : TrE ((Wr R L).at p) ta da) : TrE ((Wr R L).at p) (tProp R (spRuWeek R L) [] E0 ta) (dP fWeek da) := fun B Φ M σ H δ n Q K ok c q => ha B Φ M σ H δ n _ _ ok (fun x m v H1 f1 p1 ra q => by
  unfold fWeek at q
  split at q
  · obtain ⟨x, av, rfl, ru, kk⟩ := rul_inv ra
    obtain ⟨dx, b, c', l, ts, las, h1, _⟩ := id ru
    exact ⟨x, dx, _, rfl, h1, ⟨x, av, _, _, rfl, ru, c _ _ _ _ f1 p1 (.int _) q⟩⟩
  · exact q.elim) q
theorem trF_base (ha : TrE ((Wr R L).at p) ta da) : TrF ((Wr R L).at p) (tProp R (spRuBase R L) [] E0 ta) (dPF fBase da) := fun B Φ M σ H δ n Q K ok c q => ha B Φ M σ H δ n _ _ ok (fun x m v H1 f1 p1 ra q => by
  unfold fBase at q
  split at q
  · obtain ⟨x, av, rfl, ru, kk⟩ := rul_inv ra
    obtain ⟨dx, b, c', l, ts, las, h1, _⟩ := id ru
    exact ⟨x, dx, _, rfl, h1, ⟨x, av, _, _, rfl, ru, fun q' nq => c _ _ _ _ _ (f1.upd (.inl (none_fr f1 p1 nq))) (pl_new p1 nq) (none_fr f1 p1 nq) upd_same (repA_new (repA_ints _) nq) q⟩⟩
  · exact q.elim) q
theorem trF_changes (ha : TrE ((Wr R L).at p) ta da) : TrF ((Wr R L).at p) (tProp R (spChOf (ThR R L)) [] E0 ta) (dPF fChanges da) := fun B Φ M σ H δ n Q K ok c q => ha B Φ M σ H δ n _ _ ok (fun x m v H1 f1 p1 ra q => by
  unfold fChanges at q
  split at q
  · obtain ⟨x, av, rfl, ru, kk⟩ := rul_inv ra
    obtain ⟨dx, b, c', l, ts, las, h1, _⟩ := id ru
    refine ⟨x, dx, _, rfl, h1, ⟨x, _, rfl, ⟨av, _, ru⟩, fun H2 q' ts' s2 nq hq tp => ?_⟩⟩
    refine c _ _ _ _ _ (f1.trans (.of s2)) (pl_same p1 s2) (none_fr f1 p1 nq) hq (tups_rep tp fun t ht z => ?_) q
    obtain ⟨xs, e⟩ : ∃ xs, H2 t = some (.tup xs) := by
      have : ∀ {ts : List Addr} {ms : List (Int × Int)}, Tups H2 ts ms → t ∈ ts → ∃ xs, H2 t = some (.tup xs) := by
        intro ts
        induction ts with
        | nil => intro ms _ h; cases h
        | cons u us ih =>
          intro ms h h2
          cases ms with
          | nil => exact h.elim
          | cons m ms =>
            rcases List.mem_cons.mp h2 with rfl | h2
            · exact ⟨_, h.1⟩
            · exact ih h.2 h2
      exact this tp ht
    rcases z with z | z
    · obtain ⟨us, e2⟩ := (ok.expr f1 p1).dom t z
      rw [s2 _ _ e2] at e
      cases e
    · rw [z, hq] at e
      cases e
  · exact q.elim) q
theorem de_week {g p1 : Addr} (he : DE X ((Wr R L).at p) e ta da) (c : Cls X.K R) (hp : PropOf X.K R "week" p1 g) (F : FnOk X.prog X.w X.K X.mg X.base CX0 k g fd ps (spRuWeek R L)) (hr : Room (k + 1) X.A) (hb : Binds X.K fd ps [])
    (hab : attributeBase e "week" X.env (eval e X.env) = eval e X.env := by rfl) : DE X ((Wr R L).at p) (.Attribute e "week" pos) (tProp R (spRuWeek R L) [] E0 ta) (dP fWeek da) := ⟨pe_prop he.pe c hp F hr hb .nil pass0 hab, trE_week he.tr⟩
theorem df_base {g p1 : Addr} (he : DE X ((Wr R L).at p) e ta da) (c : Cls X.K R) (hp : PropOf X.K R "base" p1 g) (F : FnOk X.prog X.w X.K X.mg X.base CX0 k g fd ps (spRuBase R L)) (hr : Room (k + 1) X.A) (hb : Binds X.K fd ps [])
    (hab : attributeBase e "base" X.env (eval e X.env) = eval e X.env := by rfl) : DF X ((Wr R L).at p) (.Attribute e "base" pos) (tProp R (spRuBase R L) [] E0 ta) (dPF fBase da) := ⟨pe_prop he.pe c hp F hr hb .nil pass0 hab, trF_base he.tr⟩
theorem df_changes {g p1 : Addr} (he : DE X ((Wr R L).at p) e ta da) (c : Cls X.K R) (hp : PropOf X.K R "changes" p1 g) (F : FnOk X.prog X.w X.K X.mg X.base CX0 k g fd ps (spChOf (ThR R L))) (hr : Room (k + 1) X.A) (hb : Binds X.K fd ps [])
    (hab : attributeBase e "changes" X.env (eval e X.env) = eval e X.env := by rfl) : DF X ((Wr R L).at p) (.Attribute e "changes" pos) (tProp R (spChOf (ThR R L)) [] E0 ta) (dPF fChanges da) := ⟨pe_prop he.pe c hp F hr hb .nil pass0 hab, trF_changes he.tr⟩
def DV.isR : DV → Bool
  | .obj (.rul _ _) => true
  | _ => false
def dMeth (f : FD) (a : TD) (b : TDA) : TD := fun δ n K => a δ n fun x m => x.isR = true ∧ b δ m fun xs k => f (x :: xs) k K
theorem trE_meth {m : Str} {sp : Sp} {f : FD} (rd : RdFn ((Wr R L).at p) sp f) (n1 : ¬ m = "_lanes") (n2 : ¬ m = "_changes") (n3 : ¬ m = "_base") (ha : TrE ((Wr R L).at p) ta da) (hA : TrA ((Wr R L).at p) tA dA) : TrE ((Wr R L).at p) (tMeth R m sp [] E0 ta tA) (dMeth f da dA) :=
  fun B Φ M σ H δ n Q K ok c q => ha B Φ M σ H δ n _ _ ok (fun x m v H1 f1 p1 ra q => by
    obtain ⟨hx, q⟩ := q
    unfold DV.isR at hx
    split at hx
    · obtain ⟨x, av, rfl, ru, kk⟩ := rul_inv ra
      obtain ⟨dx, b, c', l, ts, las, h1, _⟩ := id ru
      refine ⟨x, dx, _, rfl, h1, ruF_no b c' l n1 n2 n3, hA B Φ M σ H1 δ m _ _ (ok.expr f1 p1) (fun ys j us H2 f2 p2 rb q => ?_) q⟩
      have ok2 := (ok.expr f1 p1).expr f2 p2
      rw [List.append_nil]
      exact rd M H2 _ _ j Q E0 K ok2.dom ok2.poolM (.cons (ra.mono (ok.frM f2)) rb) (fun r j v H' f3 p3 r3 k => c _ _ _ _ ((f1.trans f2).trans f3) p3 r3 k) q
    · cases hx) q
theorem de_meth {o : Expr} {m : Str} {sp : Sp} {f : FD} {pl0 : Sem Bool} {apos : Pos} (he : DE X ((Wr R L).at p) o ta da) (c : Cls X.K R) (hm : Meth X.K R m a) (F : FnOk X.prog X.w X.K X.mg X.base CX0 k a fd ps sp) (rd : RdFn ((Wr R L).at p) sp f) (hr : Room k X.A) (hb : Binds X.K fd ps []) (ha : DA X ((Wr R L).at p) (e :: es) tA dA)
    (n1 : ¬ m = "_lanes" := by decide +kernel) (n2 : ¬ m = "_changes" := by decide +kernel) (n3 : ¬ m = "_base" := by decide +kernel)
    (hst : starEach (e :: es) X.env = (false, eval e X.env) :: starEach es X.env := by rfl) (hpl : (backTo pos (starEach es X.env)).any (·.1) = false := by rfl)
    (ht : eval (.Call (.Attribute o m apos) (e :: es) [] pos) X.env = (do
      let ov ← eval o X.env
      standAt apos.atName
      let (f, first) ← holding [ov] (getMethod ov m pl0)
      callWith pos f first (backTo pos (starEach (e :: es) X.env)) (backToKw pos (keywordEach [] X.env))) := by rfl) :
    DE X ((Wr R L).at p) (.Call (.Attribute o m apos) (e :: es) [] pos) (tMeth R m sp [] E0 ta tA) (dMeth f da dA) := ⟨pe_meth he.pe c hm F hr hb .nil pass0 ha.pa hst hpl ht, trE_meth rd n1 n2 n3 he.tr ha.tr⟩
theorem trE_callO {sp : Sp} {f : FD} (rd : RdFn ((Wr R L).at p) sp f) (ha : TrE ((Wr R L).at p) ta da) (hA : TrA ((Wr R L).at p) tA dA) : TrE ((Wr R L).at p) (StX.tCallO X R sp E0 ta tA) (dMeth f da dA) :=
  fun B Φ M σ H δ n Q K ok c q => ha B Φ M σ H δ n _ _ ok (fun x m v H1 f1 p1 ra q => by
    obtain ⟨hx, q⟩ := q
    unfold DV.isR at hx
    split at hx
    · obtain ⟨x, av, rfl, ru, kk⟩ := rul_inv ra
      refine ⟨x, rfl, hA B Φ M σ H1 δ m _ _ (ok.expr f1 p1) (fun ys j us H2 f2 p2 rb q => ?_) q⟩
      have ok2 := (ok.expr f1 p1).expr f2 p2
      obtain ⟨x2, av2, e2, ru2, _⟩ := rul_inv (ra.mono (ok.frM f2))
      obtain rfl : x = x2 := by injection e2
      obtain ⟨dx, b, c', l, ts, las, h2, _⟩ := id ru2
      exact ⟨.inr ⟨dx, _, h2⟩, rd M H2 _ _ j Q E0 K ok2.dom ok2.poolM (.cons (ra.mono (ok.frM f2)) rb) (fun r j v H' f3 p3 r3 k => c _ _ _ _ ((f1.trans f2).trans f3) p3 r3 k) q⟩
    · cases hx) q
theorem rd_nil {W : Wo} {sp : Sp} {f : FD} (h : RdFn W sp f) : RdFn W (fun vs H Q E => sp (vs ++ []) H Q E) f := fun M H vs ds n Q E K d p r c q => by
  show sp (vs ++ []) H Q E
  rw [List.append_nil]
  exact h M H vs ds n Q E K d p r c q
/-- made(t) -/
theorem de_callO {fe : Expr} {g : Addr} {sp : Sp} {f : FD} (hf : DE X ((Wr R L).at p) fe ta da) (c : StX.CallO X.K R g) (F : FnOk X.prog X.w X.K X.mg X.base CX0 k g fd ps sp) (rd : RdFn ((Wr R L).at p) sp f) (hr : Room k X.A) (hb : Binds X.K fd ps []) (ha : DA X ((Wr R L).at p) (e :: es) tA dA)
    (ht : eval (.Call fe (e :: es) [] pos) X.env = (do callWith pos (← eval fe X.env) [] (backTo pos (starEach (e :: es) X.env)) (backToKw pos (keywordEach [] X.env))) := by rfl)
    (he : starEach (e :: es) X.env = (false, eval e X.env) :: starEach es X.env := by rfl) (hpl : (backTo pos (starEach es X.env)).any (·.1) = false := by rfl) : DE X ((Wr R L).at p) (.Call fe (e :: es) [] pos) (StX.tCallO X R (fun vs H Q E => sp (vs ++ []) H Q E) E0 ta tA) (dMeth f da dA) :=
  ⟨StX.pe_callO hf.pe c (F.raw hb .nil) hr pass0 ha.pa ht he hpl, trE_callO (rd_nil rd) hf.tr ha.tr⟩
end

/-! ### rules as maps: their normal forms -/
theorem fold_skip {n t : Int} : ∀ (cs : List (Int × Int)) (f : Int), (∀ c ∈ cs, ¬ (c.1 ≤ t ∧ (t - c.1) % n = 0)) → cs.foldl (lawStep n t) f = f
  | [], _, _ => rfl
  | c :: cs, f, h => by
    rw [List.foldl_cons]
    have : lawStep n t f c = f := by
      unfold lawStep
      rw [if_neg (h c List.mem_cons_self)]
    rw [this]
    exact fold_skip cs f fun d hd => h d (List.mem_cons_of_mem _ hd)
theorem lawOff_lo {bs : List Int} {cs : List (Int × Int)} {t : Int} (h : ∀ c ∈ cs, t < c.1) : lawOff bs cs t = wkOff bs t := fold_skip cs _ fun c hc z => by have := h c hc; omega
theorem lawOff_at {bs : List Int} {cs : List (Int × Int)} {t v : Int} (asc : cs.Pairwise fun a b => a.1 < b.1) (h : (t, v) ∈ cs) : lawOff bs cs t = v := by
  obtain ⟨A, B, rfl⟩ := List.append_of_mem h
  rw [List.pairwise_append, List.pairwise_cons] at asc
  obtain ⟨_, ⟨a2, _⟩, _⟩ := asc
  unfold lawOff
  rw [List.foldl_append, List.foldl_cons, fold_skip B _ fun c hc z => by have := a2 c hc; simp at this; omega]
  unfold lawStep
  rw [if_pos ⟨Int.le_refl _, by rw [Int.sub_self]; exact Int.zero_emod _⟩]
theorem wk_prev {bs : List Int} (t : Int) : wkOff bs (t - (bs.length : Nat)) = wkOff bs t := by
  unfold wkOff
  rw [Int.sub_emod_right]
theorem match_prev {n t m : Int} (hn : 0 < n) (h : m ≠ t) : (m ≤ t ∧ (t - m) % n = 0) ↔ (m ≤ t - n ∧ (t - n - m) % n = 0) := by
  have e : (t - n - m) % n = (t - m) % n := by
    rw [show t - n - m = t - m - n by omega, Int.sub_emod_right]
  rw [e]
  constructor
  · rintro ⟨h1, h2⟩
    refine ⟨?_, h2⟩
    obtain ⟨k, hk⟩ := Int.dvd_of_emod_eq_zero h2
    have : 0 < k := by
      rcases Int.lt_or_le 0 k with z | z
      · exact z
      · have := Int.mul_le_mul_of_nonneg_left z (Int.le_of_lt hn)
        omega
    have := Int.mul_le_mul_of_nonneg_left (show (1 : Int) ≤ k by omega) (Int.le_of_lt hn)
    omega
  · rintro ⟨h1, h2⟩
    exact ⟨by omega, h2⟩
theorem fold_congr {α β : Type} {f g : β → α → β} : ∀ (l : List α) (b : β), (∀ b, ∀ a ∈ l, f b a = g b a) → l.foldl f b = l.foldl g b
  | [], _, _ => rfl
  | a :: l, b, h => by
    rw [List.foldl_cons, List.foldl_cons, h b a List.mem_cons_self]
    exact fold_congr l _ fun b c hc => h b c (List.mem_cons_of_mem _ hc)
theorem lawOff_prev {bs : List Int} {cs : List (Int × Int)} {t : Int} (l0 : 0 < bs.length) (h : t ∉ cs.map (·.1)) : lawOff bs cs t = lawOff bs cs (t - (bs.length : Nat)) := by
  unfold lawOff
  rw [wk_prev]
  refine fold_congr cs _ fun b c hc => ?_
  have ne : c.1 ≠ t := fun z => h (by rw [← z]; exact List.mem_map_of_mem hc)
  have := match_prev (n := bs.length) (by omega) ne
  unfold lawStep
  by_cases q : c.1 ≤ t ∧ (t - c.1) % (bs.length : Int) = 0
  · rw [if_pos q, if_pos (this.mp q)]
  · rw [if_neg q, if_neg fun z => q (this.mpr z)]
theorem lawOff_cut {bs : List Int} {cs : List (Int × Int)} {m : Int} (l0 : 0 < bs.length) : lawOff bs (cs.filter fun d => decide (d.1 < m)) m = lawOff bs cs (m - (bs.length : Nat)) := by
  unfold lawOff
  rw [wk_prev, List.foldl_filter]
  refine fold_congr cs _ fun b c hc => ?_
  by_cases q : c.1 < m
  · rw [if_pos (decide_eq_true q)]
    have := match_prev (n := bs.length) (t := m) (m := c.1) (by omega) (by omega)
    unfold lawStep
    by_cases z : c.1 ≤ m ∧ (m - c.1) % (bs.length : Int) = 0
    · rw [if_pos z, if_pos (this.mp z)]
    · rw [if_neg z, if_neg fun w => z (this.mpr w)]
  · rw [if_neg (by rw [decide_eq_false q]; decide)]
    unfold lawStep
    rw [if_neg fun z => q (by omega)]
theorem norm_ne {bs : List Int} {cs : List (Int × Int)} (l0 : 0 < bs.length) (asc : cs.Pairwise fun a b => a.1 < b.1) (h : (tell bs cs).2 = cs) : ∀ c ∈ cs, lawOff bs cs (c.1 - (bs.length : Nat)) ≠ c.2 := fun c hc => by
  rw [tell_needed l0 cs asc] at h
  have := List.filter_eq_self.mp h c hc
  rw [lawOff_cut l0] at this
  simpa using this
theorem norm_of {bs : List Int} {cs : List (Int × Int)} (l0 : 0 < bs.length) (asc : cs.Pairwise fun a b => a.1 < b.1) (h : ∀ c ∈ cs, lawOff bs cs (c.1 - (bs.length : Nat)) ≠ c.2) : (tell bs cs).2 = cs := by
  rw [tell_needed l0 cs asc]
  refine List.filter_eq_self.mpr fun c hc => ?_
  rw [lawOff_cut l0]
  simpa using h c hc
/-- the least of the changes and 0 -/
theorem low_of (cs : List (Int × Int)) (x : Int) : ∃ lo : Int, lo ≤ x ∧ ∀ c ∈ cs, lo < c.1 := by
  induction cs with
  | nil => exact ⟨x, Int.le_refl _, fun c hc => nomatch hc⟩
  | cons d cs ih =>
    obtain ⟨lo, h1, h2⟩ := ih
    refine ⟨min lo (d.1 - 1), by omega, fun c hc => ?_⟩
    rcases List.mem_cons.mp hc with rfl | hc
    · omega
    · have := h2 c hc
      omega
/-- whatever a map's offsets are: told at the changes, the same as a week ahead elsewhere, the base's at first -/
theorem tells {bs : List Int} {cs : List (Int × Int)} {g : Int → Int} (l0 : 0 < bs.length) (asc : cs.Pairwise fun a b => a.1 < b.1) (h1 : ∀ c ∈ cs, c.2 = g c.1) (h2 : ∀ t, t ∉ cs.map (·.1) → g t = g (t - (bs.length : Nat)))
    (h3 : ∃ lo, ∀ t, t ≤ lo → g t = wkOff bs t) : ∀ t, lawOff bs cs t = g t := by
  obtain ⟨lo0, h3⟩ := h3
  obtain ⟨lo, le, hlo⟩ := low_of cs lo0
  intro t
  suffices H : ∀ (k : Nat) (t : Int), t ≤ lo + k → lawOff bs cs t = g t from H (t - lo).toNat t (by omega)
  intro k
  induction k with
  | zero =>
    intro t ht
    rw [h3 t (by omega), lawOff_lo fun c hc => by have := hlo c hc; omega]
  | succ k ih =>
    intro t ht
    by_cases q : t ∈ cs.map (·.1)
    · obtain ⟨c, hc, rfl⟩ := List.mem_map.mp q
      rw [lawOff_at (v := c.2) asc hc, h1 c hc]
    · rw [lawOff_prev l0 q, h2 t q]
      exact ih _ (by omega)
theorem asc_eq {xs ys : List (Int × Int)} (h1 : xs.Pairwise fun a b => a.1 < b.1) (h2 : ys.Pairwise fun a b => a.1 < b.1) (h : ∀ c, c ∈ xs ↔ c ∈ ys) : xs = ys := by
  induction xs generalizing ys with
  | nil =>
    cases ys with
    | nil => rfl
    | cons y ys => exact absurd ((h y).mpr List.mem_cons_self) List.not_mem_nil
  | cons x xs ih =>
    cases ys with
    | nil => exact absurd ((h x).mp List.mem_cons_self) List.not_mem_nil
    | cons y ys =>
      rw [List.pairwise_cons] at h1 h2
      have e : x = y := by
        rcases List.mem_cons.mp ((h x).mp List.mem_cons_self) with e | e
        · exact e
        · rcases List.mem_cons.mp ((h y).mpr List.mem_cons_self) with e2 | e2
          · exact e2.symm
          · have a := h1.1 y e2
            have b := h2.1 x e
            omega
      subst e
      rw [ih h1.2 h2.2 fun c => ?_]
      constructor
      · intro hc
        rcases List.mem_cons.mp ((h c).mp (List.mem_cons_of_mem _ hc)) with e | e
        · have := h1.1 c hc
          rw [e] at this
          omega
        · exact e
      · intro hc
        rcases List.mem_cons.mp ((h c).mpr (List.mem_cons_of_mem _ hc)) with e | e
        · have := h2.1 c hc
          rw [e] at this
          omega
        · exact e
theorem mem_of_norm {bs : List Int} {cs : List (Int × Int)} (k : RuOk bs cs) (c : Int × Int) : c ∈ cs ↔ lawOff bs cs c.1 = c.2 ∧ lawOff bs cs (c.1 - (bs.length : Nat)) ≠ c.2 := by
  constructor
  · intro hc
    exact ⟨lawOff_at k.asc hc, norm_ne k.l0 k.asc k.norm c hc⟩
  · rintro ⟨h1, h2⟩
    by_cases q : c.1 ∈ cs.map (·.1)
    · obtain ⟨d, hd, e⟩ := List.mem_map.mp q
      have e2 : lawOff bs cs d.1 = d.2 := lawOff_at k.asc hd
      have : d = c := Prod.ext e (by rw [← e2, e, h1])
      rwa [this] at hd
    · exact absurd (by rw [← lawOff_prev k.l0 q]; exact h1) h2
/-- two rules of one week with the same values have the same normal form -/
theorem rule_uniq {bs bs' : List Int} {cs cs' : List (Int × Int)} (k : RuOk bs cs) (k' : RuOk bs' cs') (hl : bs.length = bs'.length) (h : ∀ t, lawOff bs cs t = lawOff bs' cs' t) : bs = bs' ∧ cs = cs' := by
  have ec : cs = cs' := asc_eq k.asc k'.asc fun c => by rw [mem_of_norm k, mem_of_norm k', h, h, hl]
  refine ⟨?_, ec⟩
  refine List.ext_getElem hl fun i h1 h2 => ?_
  obtain ⟨lo, _, hlo⟩ := low_of cs 0
  obtain ⟨lo', hle, hlo'⟩ := low_of cs' lo
  have hn : (0 : Int) < bs.length := by omega
  have hL : ∃ t : Int, t ≤ lo' ∧ t % (bs.length : Int) = i := by
    have q0 := Int.emod_nonneg lo' (show (bs.length : Int) ≠ 0 by omega)
    have q1 := Int.emod_lt_of_pos lo' hn
    refine ⟨lo' - lo' % bs.length - bs.length + i, by omega, ?_⟩
    have : lo' - lo' % (bs.length : Int) - bs.length + i = i + (bs.length : Int) * (lo' / bs.length - 1) := by
      have := Int.mul_ediv_add_emod lo' bs.length
      rw [Int.mul_sub]
      omega
    rw [this, Int.add_mul_emod_self_left]
    exact Int.emod_eq_of_lt (by omega) (by omega)
  obtain ⟨t, ht, et⟩ := hL
  have a := h t
  rw [lawOff_lo fun c hc => by have := hlo c hc; omega, lawOff_lo fun c hc => by have := hlo' c hc; omega] at a
  unfold wkOff at a
  rw [← hl, et, Int.toNat_natCast, List.getD_eq_getElem?_getD, List.getD_eq_getElem?_getD, List.getElem?_eq_getElem h1, List.getElem?_eq_getElem h2] at a
  exact a
/-- the value at a moment -/
def val (bs : List Int) (cs : List (Int × Int)) (t : Int) : Int := t + lawOff bs cs t
theorem RuOk.off {bs : List Int} {cs : List (Int × Int)} (k : RuOk bs cs) (t : Int) : offAt bs cs t = lawOff bs cs t := offAt_law k.l0 k.ascL t
theorem RuOk.step {bs : List Int} {cs : List (Int × Int)} (k : RuOk bs cs) (t : Int) : lawOff bs cs t ≤ lawOff bs cs (t + 1) + 1 := by
  have := k.rise t
  rwa [k.off, k.off] at this
theorem RuOk.monoN {bs : List Int} {cs : List (Int × Int)} (k : RuOk bs cs) (s : Int) : ∀ n : Nat, val bs cs s ≤ val bs cs (s + n)
  | 0 => by rw [Int.natCast_zero, Int.add_zero]; exact Int.le_refl _
  | n + 1 => by
    have a := RuOk.monoN k s n
    have b := k.step (s + n)
    unfold val at *
    rw [show s + ((n + 1 : Nat) : Int) = s + n + 1 by omega]
    omega
theorem RuOk.le {bs : List Int} {cs : List (Int × Int)} (k : RuOk bs cs) {s t : Int} (h : s ≤ t) : val bs cs s ≤ val bs cs t := by
  have := k.monoN s (t - s).toNat
  rwa [show s + ((t - s).toNat : Int) = t by omega] at this
theorem risesC_of {bs : List Int} {cs : List (Int × Int)} {g : Int → Int} (l0 : 0 < bs.length) (asc : cs.Pairwise fun a b => a.1 < b.1) (h : ∀ t, lawOff bs cs t = g t) (st : ∀ t, g t ≤ g (t + 1) + 1) : RisesC bs (tell bs cs).2 := fun t => by
  rw [offAt_tell l0 asc, offAt_tell l0 asc, h, h]
  exact st t
theorem lawOff_mem {bs : List Int} {cs : List (Int × Int)} {t : Int} (l0 : 0 < bs.length) : lawOff bs cs t ∈ bs ∨ ∃ c ∈ cs, lawOff bs cs t = c.2 := by
  have w : wkOff bs t ∈ bs := by
    have a0 := Int.emod_nonneg t (show (bs.length : Int) ≠ 0 by omega)
    have a1 := Int.emod_lt_of_pos t (show (0 : Int) < bs.length by omega)
    have h : (t % (bs.length : Int)).toNat < bs.length := by omega
    unfold wkOff
    rw [List.getD_eq_getElem?_getD, List.getElem?_eq_getElem h]
    exact List.getElem_mem h
  suffices H : ∀ (ds : List (Int × Int)) (f : Int), (f ∈ bs ∨ ∃ c ∈ cs, f = c.2) → (∀ c ∈ ds, c ∈ cs) → (ds.foldl (lawStep bs.length t) f ∈ bs ∨ ∃ c ∈ cs, ds.foldl (lawStep bs.length t) f = c.2) from H cs _ (.inl w) fun c hc => hc
  intro ds
  induction ds with
  | nil => exact fun f hf _ => hf
  | cons d ds ih =>
    intro f hf hd
    rw [List.foldl_cons]
    refine ih _ ?_ fun c hc => hd c (List.mem_cons_of_mem _ hc)
    unfold lawStep
    split
    · exact .inr ⟨d, hd d List.mem_cons_self, rfl⟩
    · exact hf
/-- the latest start -/
def IsLate (bs : List Int) (cs : List (Int × Int)) (u s : Int) : Prop := val bs cs s ≤ u ∧ u < val bs cs (s + 1)
theorem IsLate.iff {bs : List Int} {cs : List (Int × Int)} (k : RuOk bs cs) {u s : Int} (h : IsLate bs cs u s) (t : Int) : val bs cs t ≤ u ↔ t ≤ s := by
  constructor
  · intro ht
    rcases Int.lt_or_le s t with z | z
    · have := k.le (show s + 1 ≤ t by omega)
      have := h.2
      omega
    · exact z
  · intro ht
    have := k.le ht
    have := h.1
    omega
theorem IsLate.uniq {bs : List Int} {cs : List (Int × Int)} (k : RuOk bs cs) {u s s' : Int} (h : IsLate bs cs u s) (h' : IsLate bs cs u s') : s = s' := by
  have a := (h.iff k s').mp h'.1
  have b := (h'.iff k s).mp h.1
  omega

/-! ### not in a list of ints; sorted pairs -/
theorem ints_any {xs : List Int} {us : List Value} {i : Int} {t : Tok} (h : Vals (xs.map V.int) us) : ∃ e : Value → Bool, (∀ y, y ∈ us.toArray → MeetsSeq.EqGives y (.int i t) (e y)) ∧ us.toArray.any e = decide (i ∈ xs) := by
  refine ⟨fun y => match y with
    | .int a _ => a == i
    | _ => false, ?_, ?_⟩
  · intro y hy
    have hy : y ∈ us := by simpa using hy
    have key : ∀ {xs : List Int} {us : List Value}, Vals (xs.map V.int) us → y ∈ us → ∃ a u, y = .int a u := fun {xs us} h hy => by
      induction xs generalizing us with
      | nil =>
        cases h
        exact nomatch hy
      | cons x xs ih =>
        cases h with
        | cons r h =>
          rcases List.mem_cons.mp hy with rfl | hy
          · obtain ⟨t, rfl⟩ := r
            exact ⟨_, _, rfl⟩
          · exact ih h hy
    obtain ⟨a, u, rfl⟩ := key h hy
    exact MeetsSeq.EqGives.int _ _ _ _
  · rw [List.any_toArray]
    induction xs generalizing us with
    | nil =>
      cases h
      simp
    | cons x xs ih =>
      cases h with
      | cons r h =>
        obtain ⟨t, rfl⟩ := r
        rw [List.any_cons, ih h]
        by_cases e : x = i
        · simp [e]
        · have : ¬ i = x := fun z => e z.symm
          simp [e, this]
def rNotInI (K : PySem.W.Frag) : R2 := fun x y H Q => ∃ (i : Int) (a : Addr) (xs : List Int), x = .int i ∧ y = .ref a ∧ SqL K H a (xs.map V.int) ∧ Q (.bl (!decide (i ∈ xs))) H
theorem op_notInI {X : Cx} : OpR X (compareOp .NotIn) (rNotInI X.K) := by
  intro pins s σ H x y v u Q I rx ry h
  obtain ⟨i, a, xs, rfl, rfl, hs, q⟩ := h
  obtain rfl : u = Value.ref a := ry
  obtain ⟨t, rfl⟩ := rx
  obtain ⟨its, rv, hl, hz⟩ := I.list hs
  obtain ⟨e, he, ea⟩ := ints_any (i := i) (t := t) rv
  refine SeqInW.notIn_listW e he hl.isList ?_
  rw [ea]
  exact ⟨.bl _, H, I, rfl, q⟩
def fNotInI : DV → DV → (DV → Prop) → Prop := fun x y K => ∃ (i : Int) (xs : List Int), x = .int i ∧ y = dInt xs ∧ K (.bl (!decide (i ∈ xs)))
theorem rd_notInI {W : Wo} {K0 : PySem.W.Frag} : RdOp W (rNotInI K0) fNotInI := fun M H x y dx dy Q K _ hx hy c h => by
  obtain ⟨i, xs, rfl, rfl, h⟩ := h
  obtain ⟨q, vs, rfl, hq, nb, ra⟩ := hy.lst_inv
  rw [ra.ints] at hq
  exact ⟨i, q, xs, hx.int_inv, rfl, SqL.of hq, c _ _ _ (fun _ _ e => e) (.bl _) h⟩
def fSortedP : List DV → (List DV → Prop) → Prop := fun ds K => ∃ ms : List (Int × Int), ds = ms.map dPr ∧ ∀ ms' : List (Int × Int), ms'.Perm ms → (ms'.Pairwise fun a b => a.1 ≤ b.1) → K (ms'.map dPr)
def keyH (H : Hp) : V → Int × Int := fun x => match x with
  | .ref t => match H t with
    | some (.tup [.int i, .int j]) => (i, j)
    | _ => (0, 0)
  | _ => (0, 0)
theorem keyH_at {H : Hp} {t : Addr} {i j : Int} (h : H t = some (.tup [.int i, .int j])) : keyH H (.ref t) = (i, j) := by
  show (match H t with
    | some (.tup [.int i, .int j]) => (i, j)
    | _ => (0, 0)) = _
  rw [h]
theorem tups_keys {H : Hp} : ∀ {ts : List Addr} {ms : List (Int × Int)}, Tups H ts ms → ms = (ts.map V.ref).map (keyH H)
  | [], [], _ => rfl
  | t :: ts, m :: ms, h => by
    rw [List.map_cons, List.map_cons, keyH_at h.1, ← tups_keys h.2]
theorem tups_of {H : Hp} : ∀ {ts : List Addr}, (∀ t ∈ ts, ∃ i j, H t = some (.tup [.int i, .int j])) → Tups H ts ((ts.map V.ref).map (keyH H))
  | [], _ => trivial
  | t :: ts, h => by
    obtain ⟨i, j, e⟩ := h t List.mem_cons_self
    refine ⟨?_, tups_of fun t ht => h t (List.mem_cons_of_mem _ ht)⟩
    rw [keyH_at e]
    exact e
theorem tups_each {H : Hp} : ∀ {ts : List Addr} {ms : List (Int × Int)}, Tups H ts ms → ∀ t ∈ ts, ∃ i j, H t = some (.tup [.int i, .int j])
  | _ :: _, m :: _, h, t, ht => by
    rcases List.mem_cons.mp ht with rfl | ht
    · exact ⟨_, _, h.1⟩
    · exact tups_each h.2 t ht
theorem rd_sortedP {W : Wo} {K0 : PySem.W.Frag} : RdQF W (rSortedPO K0) fSortedP := fun M H q vs ds Q K _ hq ra c h => by
  obtain ⟨ms, rfl, h⟩ := h
  obtain ⟨ts, rfl, tp, nt⟩ := prs_inv ra
  refine ⟨q, _, keyH H, rfl, SqL.of hq, fun x hx => ?_, fun ys p srt stb np => ?_⟩
  · obtain ⟨t, ht, rfl⟩ := List.mem_map.mp hx
    obtain ⟨i, j, e⟩ := tups_each tp t ht
    exact ⟨t, rfl, by rw [keyH_at e]; exact e⟩
  · obtain ⟨us, rfl⟩ : ∃ us : List Addr, ys = us.map V.ref := by
      have : ∀ ys : List V, (∀ y ∈ ys, ∃ t, y = V.ref t) → ∃ us : List Addr, ys = us.map V.ref := fun ys => by
        induction ys with
        | nil => exact fun _ => ⟨[], rfl⟩
        | cons y ys ih =>
          intro h
          obtain ⟨t, rfl⟩ := h y List.mem_cons_self
          obtain ⟨us, rfl⟩ := ih fun y hy => h y (List.mem_cons_of_mem _ hy)
          exact ⟨t :: us, rfl⟩
      refine this ys fun y hy => ?_
      obtain ⟨t, _, rfl⟩ := List.mem_map.mp (stb.perm.mem_iff.mp hy)
      exact ⟨t, rfl⟩
    have mem : ∀ u ∈ us, u ∈ ts := fun u hu => by
      have := stb.perm.mem_iff.mp (List.mem_map_of_mem (f := V.ref) hu)
      obtain ⟨t, ht, e⟩ := List.mem_map.mp this
      cases e
      exact ht
    have tq : Tups H us ((us.map V.ref).map (keyH H)) := tups_of fun u hu => tups_each tp u (mem u hu)
    refine c _ _ _ np (tups_rep tq fun u hu => nt u (mem u hu)) (h _ ?_ ?_)
    · rw [tups_keys tp]
      exact stb.perm.map _
    · refine List.pairwise_map.mpr (srt.imp fun {a b} z => ?_)
      have := SrtO.lexB_no.mp z
      omega

/-! ### runs of rows -/
theorem fold_last {n t : Int} {l : List (Int × Int)} {j : Nat} {c : Int × Int} (f : Int) (h : l[j]? = some c) (m : c.1 ≤ t ∧ (t - c.1) % n = 0) (rest : ∀ (i : Nat) (d : Int × Int), j < i → l[i]? = some d → ¬ (d.1 ≤ t ∧ (t - d.1) % n = 0)) : l.foldl (lawStep n t) f = c.2 := by
  obtain ⟨hj, e⟩ := List.getElem?_eq_some_iff.mp h
  have e2 : l = l.take j ++ c :: l.drop (j + 1) := by
    rw [← e, List.getElem_cons_drop, List.take_append_drop]
  rw [e2, List.foldl_append, List.foldl_cons, fold_skip]
  · unfold lawStep
    rw [if_pos m]
  · intro d hd
    obtain ⟨i, hi⟩ := List.mem_iff_getElem?.mp hd
    rw [List.getElem?_drop] at hi
    exact rest _ _ (by omega) hi
def rowsOf (s : Int) (v : List Int) : List (Int × Int) := (List.range v.length).map fun (i : Nat) => (s + (i : Int), v.getD i 0 - (s + (i : Int)))
theorem rowsOf_len (s : Int) (v : List Int) : (rowsOf s v).length = v.length := by unfold rowsOf; rw [List.length_map, List.length_range]
theorem rowsOf_get {s : Int} {v : List Int} {i : Nat} (h : i < v.length) : (rowsOf s v)[i]? = some (s + (i : Int), v.getD i 0 - (s + (i : Int))) := by
  unfold rowsOf
  rw [List.getElem?_map, List.getElem?_range h]
  rfl
theorem rowsOf_mem {s : Int} {v : List Int} {c : Int × Int} (h : c ∈ rowsOf s v) : ∃ i : Nat, i < v.length ∧ c.1 = s + (i : Int) ∧ c.2 = v.getD i 0 - (s + (i : Int)) := by
  unfold rowsOf at h
  obtain ⟨i, hi, rfl⟩ := List.mem_map.mp h
  exact ⟨i, List.mem_range.mp hi, rfl, rfl⟩
theorem rowsOf_asc (s : Int) (v : List Int) : (rowsOf s v).Pairwise fun a b => a.1 < b.1 := by
  unfold rowsOf
  refine List.pairwise_map.mpr ((List.pairwise_lt_range (n := v.length)).imp fun {a b} h => ?_)
  show s + (a : Int) < s + (b : Int)
  omega
theorem run_lo {bs : List Int} {cs : List (Int × Int)} {s t : Int} {v : List Int} (h : t < s) : lawOff bs (cs ++ rowsOf s v) t = lawOff bs cs t := by
  unfold lawOff
  rw [List.foldl_append]
  refine fold_skip _ _ fun c hc z => ?_
  obtain ⟨i, _, e, _⟩ := rowsOf_mem hc
  omega
theorem run_at {bs : List Int} {cs : List (Int × Int)} {s t : Int} {v : List Int} {j : Nat} (hj : j < v.length) (le : s + (j : Int) ≤ t) (md : (t - (s + (j : Int))) % (bs.length : Int) = 0) (rest : ∀ i : Nat, j < i → i < v.length → s + (i : Int) ≤ t → ¬ (t - (s + (i : Int))) % (bs.length : Int) = 0) :
    val bs (cs ++ rowsOf s v) t = v.getD j 0 + (t - s - (j : Int)) := by
  unfold val lawOff
  rw [List.foldl_append, fold_last (j := j) _ (rowsOf_get hj) ⟨le, md⟩ fun i d hi e z => ?_]
  · show t + (v.getD j 0 - (s + (j : Int))) = _
    omega
  · by_cases hv : i < v.length
    · rw [rowsOf_get hv] at e
      obtain rfl := Option.some.inj e
      exact rest i hi hv z.1 z.2
    · rw [List.getElem?_eq_none (by rw [rowsOf_len]; omega)] at e
      cases e
theorem run_mid {bs : List Int} {cs : List (Int × Int)} {s : Int} {v : List Int} {j : Nat} (hj : j < v.length) : val bs (cs ++ rowsOf s v) (s + (j : Int)) = v.getD j 0 := by
  rw [run_at hj (Int.le_refl _) (by rw [Int.sub_self]; exact Int.zero_emod _) fun i h1 h2 h3 => by omega]
  omega
theorem run_hi {bs : List Int} {cs : List (Int × Int)} {s t : Int} {v : List Int} (l0 : 0 < bs.length) (lv : bs.length ≤ v.length) (h : s + (v.length : Int) ≤ t) :
    ∃ k : Nat, k < bs.length ∧ (k : Int) = (t - s - (v.length : Int)) % (bs.length : Int) ∧ val bs (cs ++ rowsOf s v) t = v.getD (v.length - bs.length + k) 0 + (t - s - ((v.length - bs.length + k : Nat) : Int)) := by
  have hn : (0 : Int) < bs.length := by omega
  have a := Int.emod_nonneg (t - s - (v.length : Int)) (show (bs.length : Int) ≠ 0 by omega)
  have b := Int.emod_lt_of_pos (t - s - (v.length : Int)) hn
  have dv := Int.mul_ediv_add_emod (t - s - (v.length : Int)) (bs.length : Int)
  have q0 : 0 ≤ (t - s - (v.length : Int)) / (bs.length : Int) := Int.ediv_nonneg (by omega) (by omega)
  generalize (t - s - (v.length : Int)) / (bs.length : Int) = q at dv q0
  generalize (t - s - (v.length : Int)) % (bs.length : Int) = r at a b dv
  have mq : 0 ≤ (bs.length : Int) * q := Int.mul_nonneg (by omega) q0
  refine ⟨r.toNat, by omega, by omega, run_at (by omega) (by omega) ?_ fun i h1 h2 h3 h4 => ?_⟩
  · have e : t - (s + ((v.length - bs.length + r.toNat : Nat) : Int)) = (bs.length : Int) * (q + 1) := by
      rw [Int.mul_add, Int.mul_one]
      omega
    rw [e, Int.mul_emod_right]
  · have e : t - (s + (i : Int)) = ((v.length - bs.length + r.toNat : Nat) : Int) - (i : Int) + (bs.length : Int) * (q + 1) := by
      rw [Int.mul_add, Int.mul_one]
      omega
    rw [e, Int.add_mul_emod_self_left] at h4
    have h5 := Int.dvd_of_emod_eq_zero h4
    obtain ⟨z, hz⟩ := h5
    by_cases z0 : 0 ≤ z
    · have := Int.mul_nonneg (Int.le_of_lt hn) z0
      omega
    · have := Int.mul_le_mul_of_nonneg_left (show z ≤ -1 by omega) (Int.le_of_lt hn)
      rw [Int.mul_neg, Int.mul_one] at this
      omega
def Up (bs : List Int) (cs : List (Int × Int)) : Prop := ∀ t, val bs cs t ≤ val bs cs (t + 1)
theorem run_up {bs : List Int} {cs : List (Int × Int)} {s : Int} {v : List Int} (l0 : 0 < bs.length) (lv : bs.length ≤ v.length) (up : Up bs cs) (first : val bs cs (s - 1) ≤ v.getD 0 0) (asc : ∀ i : Nat, i + 1 < v.length → v.getD i 0 ≤ v.getD (i + 1) 0)
    (wrap : v.getD (v.length - 1) 0 ≤ v.getD (v.length - bs.length) 0 + bs.length) : Up bs (cs ++ rowsOf s v) := by
  intro t
  have hn : (0 : Int) < bs.length := by omega
  by_cases h1 : t + 1 < s
  · unfold val
    rw [run_lo h1, run_lo (by omega)]
    exact up t
  by_cases h2 : t + 1 = s
  · have e : val bs (cs ++ rowsOf s v) t = val bs cs (s - 1) := by
      unfold val
      rw [run_lo (by omega)]
      have : t = s - 1 := by omega
      rw [this]
    have e2 := run_mid (bs := bs) (cs := cs) (s := s) (v := v) (j := 0) (by omega)
    rw [show s + ((0 : Nat) : Int) = t + 1 by omega] at e2
    rw [e, e2]
    exact first
  obtain ⟨j, hj⟩ : ∃ j : Nat, t = s + (j : Int) := ⟨(t - s).toNat, by omega⟩
  by_cases h3 : j + 1 < v.length
  · have e1 := run_mid (bs := bs) (cs := cs) (s := s) (v := v) (j := j) (by omega)
    have e2 := run_mid (bs := bs) (cs := cs) (s := s) (v := v) (j := j + 1) h3
    rw [show s + ((j + 1 : Nat) : Int) = t + 1 by omega] at e2
    rw [hj] at e2 ⊢
    rw [e1, e2]
    exact asc j h3
  obtain ⟨k2, hk2, f2, e2⟩ := run_hi (bs := bs) (cs := cs) (s := s) (t := t + 1) (v := v) l0 lv (by omega)
  by_cases h4 : j + 1 = v.length
  · have e1 := run_mid (bs := bs) (cs := cs) (s := s) (v := v) (j := j) (by omega)
    have z : t + 1 - s - (v.length : Int) = 0 := by omega
    rw [z, Int.zero_emod] at f2
    obtain rfl : k2 = 0 := by omega
    rw [Nat.add_zero] at e2
    rw [e2, hj, e1]
    have : j = v.length - 1 := by omega
    rw [this]
    omega
  obtain ⟨k1, hk1, f1, e1⟩ := run_hi (bs := bs) (cs := cs) (s := s) (t := t) (v := v) l0 lv (by omega)
  have st : (t + 1 - s - (v.length : Int)) % (bs.length : Int) = if (t - s - (v.length : Int)) % (bs.length : Int) + 1 = bs.length then 0 else (t - s - (v.length : Int)) % (bs.length : Int) + 1 := by
    have a := Int.emod_nonneg (t - s - (v.length : Int)) (show (bs.length : Int) ≠ 0 by omega)
    have b := Int.emod_lt_of_pos (t - s - (v.length : Int)) hn
    rw [show t + 1 - s - (v.length : Int) = (t - s - (v.length : Int)) + 1 by omega, Int.add_emod]
    generalize (t - s - (v.length : Int)) % (bs.length : Int) = r at a b ⊢
    split
    · rename_i h
      by_cases h1 : (bs.length : Int) = 1
      · rw [h1] at h ⊢
        omega
      · rw [Int.emod_eq_of_lt (a := 1) (by omega) (by omega), h, Int.emod_self]
    · rename_i h
      by_cases h1 : (bs.length : Int) = 1
      · omega
      · rw [Int.emod_eq_of_lt (a := 1) (by omega) (by omega), Int.emod_eq_of_lt (by omega) (by omega)]
  rw [← f1, ← f2] at st
  rw [e1, e2]
  split at st
  · obtain rfl : k2 = 0 := by omega
    have : v.length - bs.length + k1 = v.length - 1 := by omega
    rw [this, Nat.add_zero]
    omega
  · obtain rfl : k2 = k1 + 1 := by omega
    have := asc (v.length - bs.length + k1) (by omega)
    rw [← Nat.add_assoc]
    omega
theorem Up.rises {bs : List Int} {cs : List (Int × Int)} (l0 : 0 < bs.length) (asc : cs.Pairwise fun a b => a.1 < b.1) (up : Up bs cs) : RisesC bs (tell bs cs).2 := risesC_of l0 asc (fun _ => rfl) fun t => by
  have := up t
  unfold val at this
  omega
/-- moved by whole weeks, lifted -/
theorem lawOff_moved {bs : List Int} {cs : List (Int × Int)} {far up : Int} (l0 : 0 < bs.length) (h : far % (bs.length : Int) = 0) (t : Int) : lawOff (bs.map (· + up)) (cs.map fun c => (c.1 + far, c.2 + up)) t = lawOff bs cs (t - far) + up := by
  unfold lawOff
  rw [List.length_map]
  have e0 : wkOff (bs.map (· + up)) t = wkOff bs (t - far) + up := by
    unfold wkOff
    rw [List.length_map]
    have e : (t - far) % (bs.length : Int) = t % (bs.length : Int) := by
      rw [Int.sub_emod, h, Int.sub_zero, Int.emod_emod_of_dvd _ (Int.dvd_refl _)]
    have a := Int.emod_nonneg t (show (bs.length : Int) ≠ 0 by omega)
    have b := Int.emod_lt_of_pos t (show (0 : Int) < bs.length by omega)
    have hi : (t % (bs.length : Int)).toNat < bs.length := by omega
    rw [e, List.getD_eq_getElem?_getD, List.getD_eq_getElem?_getD, List.getElem?_map, List.getElem?_eq_getElem hi]
    rfl
  rw [e0]
  generalize wkOff bs (t - far) = f
  induction cs generalizing f with
  | nil => rfl
  | cons c cs ih =>
    rw [List.map_cons, List.foldl_cons, List.foldl_cons, ← ih]
    congr 1
    unfold lawStep
    have e1 : t - (c.1 + far) = t - far - c.1 := by omega
    by_cases g : c.1 ≤ t - far ∧ (t - far - c.1) % (bs.length : Int) = 0
    · rw [if_pos g, if_pos ⟨by show c.1 + far ≤ t; omega, by rw [e1]; exact g.2⟩]
    · rw [if_neg g, if_neg fun z => g ⟨by have : c.1 + far ≤ t := z.1; omega, by rw [← e1]; exact z.2⟩]
theorem moved_up {bs : List Int} {cs : List (Int × Int)} {far up : Int} (l0 : 0 < bs.length) (h : far % (bs.length : Int) = 0) (k : Up bs cs) : Up (bs.map (· + up)) (cs.map fun c => (c.1 + far, c.2 + up)) := by
  intro t
  unfold val
  rw [lawOff_moved l0 h, lawOff_moved l0 h]
  have := k (t - far)
  unfold val at this
  rw [show t - far + 1 = t + 1 - far by omega] at this
  omega

/-- an idle change, put where it belongs -/
theorem lawOff_idle {bs : List Int} {as cs : List (Int × Int)} {m : Int} (l0 : 0 < bs.length) (h1 : ∀ c ∈ as, c.1 < m) (h2 : ∀ c ∈ cs, m < c.1) (t : Int) : lawOff bs (as ++ (m, lawOff bs (as ++ cs) m) :: cs) t = lawOff bs (as ++ cs) t := by
  have em : lawOff bs (as ++ cs) m = lawOff bs as m := by
    unfold lawOff
    rw [List.foldl_append]
    exact fold_skip cs _ fun c hc z => by have := h2 c hc; omega
  have key : lawStep bs.length t (lawOff bs as t) (m, lawOff bs (as ++ cs) m) = lawOff bs as t := by
    rw [em]
    unfold lawStep
    by_cases g : m ≤ t ∧ (t - m) % (bs.length : Int) = 0
    · rw [if_pos g]
      show lawOff bs as m = lawOff bs as t
      have e0 : wkOff bs t = wkOff bs m := by
        unfold wkOff
        rw [show t % (bs.length : Int) = m % (bs.length : Int) from (Int.emod_eq_emod_iff_emod_sub_eq_zero).mpr g.2]
      unfold lawOff
      rw [e0]
      refine fold_congr as _ fun b a ha => ?_
      have ha1 := h1 a ha
      have q : (m - a.1) % (bs.length : Int) = (t - a.1) % (bs.length : Int) := by
        refine (Int.emod_eq_emod_iff_emod_sub_eq_zero).mpr ?_
        have g2 := Int.emod_eq_zero_of_dvd ((Int.dvd_neg).mpr (Int.dvd_of_emod_eq_zero g.2))
        rw [show m - a.1 - (t - a.1) = -(t - m) by omega]
        exact g2
      unfold lawStep
      rw [q]
      by_cases g3 : (t - a.1) % (bs.length : Int) = 0
      · rw [if_pos ⟨by omega, g3⟩, if_pos ⟨by omega, g3⟩]
      · rw [if_neg fun z => g3 z.2, if_neg fun z => g3 z.2]
    · rw [if_neg g]
  show (as ++ (m, lawOff bs (as ++ cs) m) :: cs).foldl (lawStep bs.length t) (wkOff bs t) = (as ++ cs).foldl (lawStep bs.length t) (wkOff bs t)
  rw [List.foldl_append, List.foldl_append, List.foldl_cons]
  exact congrArg (fun z => cs.foldl (lawStep bs.length t) z) key
theorem perm_asc {xs ys : List (Int × Int)} (h1 : xs.Pairwise fun a b => a.1 < b.1) (h2 : ys.Pairwise fun a b => a.1 < b.1) (p : xs.Perm ys) : xs = ys := asc_eq h1 h2 fun c => p.mem_iff
theorem sorted_insert {xs ys : List (Int × Int)} {c : Int × Int} (asc : xs.Pairwise fun a b => a.1 < b.1) (nc : c.1 ∉ xs.map (·.1)) (p : ys.Perm (xs ++ [c])) (s : ys.Pairwise fun a b => a.1 ≤ b.1) :
    ys = xs.filter (fun d => decide (d.1 < c.1)) ++ c :: xs.filter (fun d => !decide (d.1 < c.1)) ∧ (ys.Pairwise fun a b => a.1 < b.1) ∧ (∀ d ∈ xs.filter (fun d => !decide (d.1 < c.1)), c.1 < d.1) ∧ xs = xs.filter (fun d => decide (d.1 < c.1)) ++ xs.filter (fun d => !decide (d.1 < c.1)) := by
  have nc2 : ∀ d ∈ xs, d.1 ≠ c.1 := fun d hd e => nc (List.mem_map.mpr ⟨d, hd, e⟩)
  have hi : ∀ d ∈ xs.filter (fun d => !decide (d.1 < c.1)), c.1 < d.1 := fun d hd => by
    obtain ⟨h1, h2⟩ := List.mem_filter.mp hd
    have := nc2 d h1
    have h3 : ¬ d.1 < c.1 := by simpa using h2
    omega
  have lo : ∀ d ∈ xs.filter (fun d => decide (d.1 < c.1)), d.1 < c.1 := fun d hd => of_decide_eq_true (List.mem_filter.mp hd).2
  have az : (xs.filter (fun d => decide (d.1 < c.1)) ++ c :: xs.filter (fun d => !decide (d.1 < c.1))).Pairwise fun a b => a.1 < b.1 := by
    refine List.pairwise_append.mpr ⟨asc.filter _, List.pairwise_cons.mpr ⟨hi, asc.filter _⟩, fun a ha b hb => ?_⟩
    rcases List.mem_cons.mp hb with rfl | hb
    · exact lo a ha
    · have := lo a ha
      have := hi b hb
      omega
  have pf : (xs.filter (fun d => decide (d.1 < c.1)) ++ xs.filter (fun d => !decide (d.1 < c.1))).Perm xs := List.filter_append_perm _ _
  have ax : (xs.filter (fun d => decide (d.1 < c.1)) ++ xs.filter (fun d => !decide (d.1 < c.1))).Pairwise fun a b => a.1 < b.1 := by
    refine List.pairwise_append.mpr ⟨asc.filter _, asc.filter _, fun a ha b hb => ?_⟩
    have := lo a ha
    have := hi b hb
    omega
  have ex := perm_asc asc ax pf.symm
  have pz : ys.Perm (xs.filter (fun d => decide (d.1 < c.1)) ++ c :: xs.filter (fun d => !decide (d.1 < c.1))) := by
    refine p.trans ?_
    refine (List.perm_append_singleton c xs).trans ?_
    refine (pf.symm.cons c).trans ?_
    exact List.perm_middle.symm
  have sy : ys.Pairwise fun a b => a.1 < b.1 := by
    have nd : (ys.map (·.1)).Nodup := by
      refine (pz.map (·.1)).nodup_iff.mpr ?_
      rw [List.nodup_iff_pairwise_ne, List.pairwise_map]
      exact az.imp fun z e => by omega
    rw [List.nodup_iff_pairwise_ne, List.pairwise_map] at nd
    exact s.imp₂ (fun a b h1 h2 => by omega) nd
  exact ⟨perm_asc sy az pz, sy, hi, ex⟩
theorem idle_up {bs : List Int} {xs ys : List (Int × Int)} {m : Int} (l0 : 0 < bs.length) (asc : xs.Pairwise fun a b => a.1 < b.1) (nc : m ∉ xs.map (·.1)) (p : ys.Perm (xs ++ [(m, lawOff bs xs m)])) (s : ys.Pairwise fun a b => a.1 ≤ b.1) :
    (ys.Pairwise fun a b => a.1 < b.1) ∧ ∀ t, lawOff bs ys t = lawOff bs xs t := by
  obtain ⟨e, sy, hi, ex⟩ := sorted_insert (c := (m, lawOff bs xs m)) asc nc p s
  refine ⟨sy, fun t => ?_⟩
  have lo : ∀ d ∈ xs.filter (fun d => decide (d.1 < m)), d.1 < m := fun d hd => of_decide_eq_true (List.mem_filter.mp hd).2
  have := lawOff_idle (bs := bs) (as := xs.filter (fun d => decide (d.1 < m))) (cs := xs.filter (fun d => !decide (d.1 < m))) (m := m) l0 lo hi t
  rw [← ex] at this
  rw [e]
  exact this

/-! ### the week of a law -/
def upWk (up : Int) (xs : List Int) : List Int := (List.range xs.length).map fun i => up + xs.getD i 0 - (i : Nat)
theorem upWk_len (up : Int) (xs : List Int) : (upWk up xs).length = xs.length := by unfold upWk; rw [List.length_map, List.length_range]
theorem upWk_get {up : Int} {xs : List Int} {i : Nat} (h : i < xs.length) : (upWk up xs)[i]? = some (up + xs[i] - (i : Nat)) := by
  unfold upWk
  rw [List.getElem?_map, List.getElem?_range h]
  show some (up + xs.getD i 0 - (i : Nat)) = some _
  rw [List.getD_eq_getElem?_getD, List.getElem?_eq_getElem h]
  rfl
theorem wk_up {up : Int} {xs : List Int} (h0 : 0 < xs.length) (t : Int) : ∃ (i : Nat) (h : i < xs.length), (i : Int) = t % xs.length ∧ wkOff (upWk up xs) t = up + xs[i] - i := by
  have a := Int.emod_nonneg t (show (xs.length : Int) ≠ 0 by omega)
  have b := Int.emod_lt_of_pos t (show (0 : Int) < xs.length by omega)
  refine ⟨(t % (xs.length : Int)).toNat, by omega, by omega, ?_⟩
  unfold wkOff
  rw [upWk_len, List.getD_eq_getElem?_getD, upWk_get (by omega)]
  rfl
theorem up_rises {up : Int} {xs : List Int} (h0 : 0 < xs.length) (asc : xs.Pairwise (· ≤ ·)) (hb : ∀ v ∈ xs, 0 ≤ v ∧ v ≤ xs.length) : Rises (upWk up xs) := by
  intro t
  obtain ⟨i, hi, e1, e2⟩ := wk_up (up := up) h0 t
  obtain ⟨j, hj, e3, e4⟩ := wk_up (up := up) h0 (t + 1)
  rw [e2, e4]
  have hn : (0 : Int) < xs.length := by omega
  have st : (t + 1) % (xs.length : Int) = if t % (xs.length : Int) + 1 = xs.length then 0 else t % (xs.length : Int) + 1 := by
    have a := Int.emod_nonneg t (show (xs.length : Int) ≠ 0 by omega)
    have b := Int.emod_lt_of_pos t hn
    rw [Int.add_emod]
    split
    · rename_i h
      by_cases h1 : (xs.length : Int) = 1
      · rw [h1] at h ⊢
        omega
      · rw [Int.emod_eq_of_lt (a := 1) (by omega) (by omega), h, Int.emod_self]
    · rename_i h
      by_cases h1 : (xs.length : Int) = 1
      · omega
      · rw [Int.emod_eq_of_lt (a := 1) (by omega) (by omega), Int.emod_eq_of_lt (by omega) (by omega)]
  have bi := hb _ (List.getElem_mem hi)
  have bj := hb _ (List.getElem_mem hj)
  rw [← e1, ← e3] at st
  split at st
  · omega
  · have ij : i < j := by omega
    have := List.pairwise_iff_getElem.mp asc i j hi hj ij
    omega
theorem wk_period {bs : List Int} (t : Int) : wkOff bs (t + (bs.length : Nat)) = wkOff bs t := by
  unfold wkOff
  rw [Int.add_emod_right]
/-- a new rule, by the promise of its __init__ -/

theorem rd_draw {W : Wo} : RdFn W spTake fDraw := fun M H vs ds n Q E K dm pp r c h => by
  unfold fDraw at h
  split at h
  · obtain ⟨h1, h2, h3, h⟩ := h
    obtain ⟨v, us, rfl, r1, rs⟩ := r.cons_inv
    obtain ⟨u, rfl, r2⟩ := rs.one_inv
    cases r1 with
    | pool e =>
      rename_i q
      refine ⟨q, n, _, by rw [r2.int_inv], (pp q e).2, h1, h2, h3, fun z H' z0 z1 f w => c _ _ _ _ (fun b o e2 nb => f b o e2 fun z => nb (by rw [z]; exact e)) (fun a ea => ?_) (.int _) (h z z0 z1)⟩
      rw [e] at ea
      obtain rfl := Option.some.inj ea
      exact w
  · exact h.elim
/-- the law's own offset -/
def fOffL : FD := fun ds n K => ∃ bs cs t, ds = [.tup [dInt bs, dPrs cs], .int t] ∧ 0 < bs.length ∧ K (.int (lawOff bs cs t)) n
theorem atI_dInt {bs : List Int} {t : Int} (h : 0 < bs.length) : atI (bs.map DV.int) (t % bs.length) = some (.int (wkOff bs t)) := by
  have h0 := Int.emod_nonneg t (show (bs.length : Int) ≠ 0 by omega)
  have h1 := Int.emod_lt_of_pos t (show (0 : Int) < bs.length by omega)
  obtain ⟨j, hj⟩ : ∃ j : Nat, t % (bs.length : Int) = (j : Int) := ⟨(t % (bs.length : Int)).toNat, by omega⟩
  have hj2 : j < bs.length := by omega
  unfold wkOff
  rw [hj]
  refine atI_nat (j := j) ?_
  rw [List.getElem?_map, List.getElem?_eq_getElem hj2, List.getD_eq_getElem?_getD, Int.toNat_natCast, List.getElem?_eq_getElem hj2]
  rfl
theorem getD_prs {cs : List (Int × Int)} {i : Nat} (h : i < cs.length) : (cs.map dPr).getD i .non = dPr cs[i] := by
  rw [List.getD_eq_getElem?_getD, List.getElem?_map, List.getElem?_eq_getElem h]
  rfl
theorem getD_ints {cs : List Int} {i : Nat} (h : i < cs.length) : (cs.map DV.int).getD i .non = .int cs[i] := by
  rw [List.getD_eq_getElem?_getD, List.getElem?_map, List.getElem?_eq_getElem h]
  rfl
section
variable {P : Program} {w : World} {K : PySem.W.Frag} {mg : Str → Option Value} {base : Heap}
theorem scOffL : FnScope ["plan", "spot", "size", "found", "at", "offset_here"] ["plan", "spot"] (defScope sOffL) := ⟨rfl, rfl, rfl, by decide +kernel, rfl, by decide +kernel, by decide +kernel⟩
theorem ok_ofD {f R L : Addr} {fd : FuncData} (F : Fun K "_law_offset" "_law_offset" sOffL f fd) (T : Blt mg) : FnOk P w K mg base CX0 1 f fd ["plan", "spot"] (spD (Wr R L) fOffL) := by
  refine okD F scOffL (Wr R L) fOffL (fun ds n K h => ?_) (fun p cdv A outer s H E hr => ?_)
  · obtain ⟨bs, cs, t, rfl, _⟩ := h
    rfl
  · 
    refine ⟨_, _, (dss_cons (ds_set (i := 2) scOffL.nd rfl (.inl rfl) (de_bQ call_len_seq (by rfl) T.len PySem.boot_len rd_len (dq (de_ixT (dv 0) de_int))))
      (dss_cons (ds_set (i := 3) scOffL.nd rfl (.inl rfl) (de_ixL (dq (de_ixT (dv 0) de_int)) (de_op op_mod rd_I (de_t call_int1 (by rfl) T.int (by decide +kernel) rd_int (da_cons (dv 1) da_nil)) (dv 2))))
      (dss_cons (ds_for [4, 5] PassesOwn.never rfl (di_list (de_ixT (dv 0) de_int)) (dg_tup rfl (dgs_cons (dg_name (i := 4) scOffL.nd rfl (.inl rfl)) (dgs_cons (dg_name (i := 5) scOffL.nd rfl (.inl rfl)) dgs_nil)) (.cons (.cons .nil)))
        (dss_one (ds_if (DW.dt (dw_and (dt_cmp op_le rd_B0 (dv 4) (dv 1)) (dw_and1 (dt_cmp op_eq rd_Eq (de_op op_mod rd_I (de_t call_int1 (by rfl) T.int (by decide +kernel) rd_int (da_cons (de_op op_sub rd_I0 (dv 1) (dv 4)) da_nil)) (dv 2)) de_int))))
          (dss_one (ds_set (i := 3) scOffL.nd rfl (.inl rfl) (dv 5)))
          dss_nil)))
      (dss_one (ds_ret (dv 3)))))), fun ds n K h => ?_⟩
    obtain ⟨bs, cs, t, rfl, l0, k⟩ := h
    refine ⟨_, rfl, ?_⟩
    refine ⟨_, rfl, ?_⟩
    have el : (((bs.map DV.int).length : Nat) : Int) = bs.length := by rw [List.length_map]
    refine ⟨by rw [el]; omega, _, by rw [el]; exact atI_dInt l0, ?_⟩
    refine ⟨_, rfl, ?_⟩
    refine ⟨fun i δ m => ∃ y4 y5 : Option SV, δ = [some (.dat (.tup [dInt bs, dPrs cs])), some (.dat (.int t)), some (.dat (.int (bs.map DV.int).length)), some (.dat (.int ((cs.take i).foldl (lawStep bs.length t) (wkOff bs t)))), y4, y5] ∧ m = n, ⟨none, none, rfl, rfl⟩, ?_, ?_⟩
    · rintro i δ m hi ⟨y4, y5, rfl, rfl⟩
      have hi2 : i < cs.length := by simpa using hi
      have et : (cs.take (i + 1)).foldl (lawStep bs.length t) (wkOff bs t) = lawStep bs.length t ((cs.take i).foldl (lawStep bs.length t) (wkOff bs t)) cs[i] := by
        rw [List.take_add_one, List.getElem?_eq_getElem hi2, List.foldl_append]
        rfl
      simp only [getD_prs hi2]
      refine ⟨fun g => ⟨by rw [el]; omega, rfl, fun g2 => ?_, fun g2 => ?_⟩, fun g => ⟨(fun z => nomatch z), fun _ => ?_⟩⟩
      · have g1 : cs[i].1 ≤ t := of_decide_eq_true g
        have g3 : (t - cs[i].1) % (bs.length : Int) = 0 := by
          have := of_decide_eq_true g2
          rw [el] at this
          injection this
        refine ⟨some (.dat (.int cs[i].1)), some (.dat (.int cs[i].2)), ?_, rfl⟩
        rw [et]
        unfold lawStep
        rw [if_pos ⟨g1, g3⟩]
        rfl
      · have g3 : ¬ (t - cs[i].1) % (bs.length : Int) = 0 := fun z => by
          have := of_decide_eq_false g2
          rw [el] at this
          exact this (by rw [z])
        refine ⟨some (.dat (.int cs[i].1)), some (.dat (.int cs[i].2)), ?_, rfl⟩
        rw [et]
        unfold lawStep
        rw [if_neg fun z => g3 z.2]
        rfl
      · have g1 : ¬ cs[i].1 ≤ t := of_decide_eq_false g
        refine ⟨some (.dat (.int cs[i].1)), some (.dat (.int cs[i].2)), ?_, rfl⟩
        rw [et]
        unfold lawStep
        rw [if_neg fun z => g1 z.1]
        rfl
    · rintro δ m ⟨y4, y5, rfl, rfl⟩
      rw [List.length_map (as := cs), List.take_length]
      exact k
end

/-! ### what a law tells: a rule by its changes -/
theorem getD_int {cs : List Int} {i : Nat} (h : i < cs.length) : (cs.map DV.int).getD i .non = .int (cs.getD i 0) := by
  rw [getD_ints h, List.getD_eq_getElem?_getD, List.getElem?_eq_getElem h]
  rfl
theorem acc_map {α : Type} {f : Nat → α} {i : Nat} {y : α} (h : y = f i) : (List.range i).map f ++ [y] = (List.range (i + 1)).map f := by
  rw [List.range_succ, List.map_append, h]
  rfl
def fRisL : FD := fun ds n K => ∃ z : Int, ds = [.pool, .int z] ∧ n ≤ 10 ^ 8 ∧ 1 ≤ z ∧ z ≤ 12 ∧ ∀ xs : List Int, xs.Pairwise (· ≤ ·) → (xs.length : Int) = z → (∀ v ∈ xs, 0 ≤ v ∧ v ≤ z) → K (dInt xs) (n + 12)
theorem rd_risL {W : Wo} : RdFn W spRisingL fRisL := fun M H vs ds n Q E K dm pp r c h => by
  obtain ⟨z, rfl, h1, h2, h3, h⟩ := h
  obtain ⟨v, us, rfl, r1, rs⟩ := r.cons_inv
  obtain ⟨u, rfl, r2⟩ := rs.one_inv
  cases r1 with
  | pool e =>
    rename_i q
    refine ⟨q, n, _, by rw [r2.int_inv], (pp q e).2, h1, h2, h3, fun y xs H' asc xl xb ny nyq hy f w => c _ _ _ _ (fun b o e2 nb => f b o e2 fun z => nb (by rw [z]; exact e)) (fun a ea => ?_) ?_ (h xs asc xl xb)⟩
    · rw [e] at ea
      obtain rfl := Option.some.inj ea
      exact w
    · have nM : ¬ M y := fun z => (dm y z).ne ny
      have ra : RepA W M H' (xs.map V.int) (xs.map DV.int) := repA_ints xs
      exact .lst hy nM ra.1 ra.2
/-- a rule as it is told -/
structure Told (z b : Int) (bs : List Int) (cs : List (Int × Int)) : Prop where
  len : (bs.length : Int) = z
  asc : cs.Pairwise fun a b => a.1 < b.1
  up : Up bs cs
  many : cs.length ≤ 24
  bb : ∀ v ∈ bs, -b ≤ v ∧ v ≤ b
  cb : ∀ c ∈ cs, (-b ≤ c.1 ∧ c.1 ≤ b) ∧ -b ≤ c.2 ∧ c.2 ≤ b
def fTold : FD := fun ds n K => ∃ z r j : Int, ds = [.pool, .int z, .int r, .int j] ∧ n ≤ 10 ^ 7 ∧ (1 ≤ z ∧ z ≤ 12) ∧ (0 ≤ r ∧ r ≤ 100) ∧ (0 ≤ j ∧ j ≤ 100) ∧ ∀ bs cs m, Told z 2000 bs cs → m ≤ n + 200 → K (.tup [dInt bs, dPrs cs]) m
theorem wk_mem {bs : List Int} (l0 : 0 < bs.length) (t : Int) : wkOff bs t ∈ bs := by
  have a := Int.emod_nonneg t (show (bs.length : Int) ≠ 0 by omega)
  have b := Int.emod_lt_of_pos t (show (0 : Int) < bs.length by omega)
  have hi : (t % (bs.length : Int)).toNat < bs.length := by omega
  unfold wkOff
  rw [List.getD_eq_getElem?_getD, List.getElem?_eq_getElem hi]
  exact List.getElem_mem hi
theorem rows_eq {s low : Int} {xs : List Int} : (List.range xs.length).map (fun (i : Nat) => dPr (s + (i : Int), low + xs.getD i 0 - s - (i : Int))) = (rowsOf s (xs.map (low + ·))).map dPr := by
  unfold rowsOf
  rw [List.map_map, List.length_map]
  refine List.map_congr_left fun i hi => ?_
  have hi := List.mem_range.mp hi
  show dPr _ = dPr (s + (i : Int), (xs.map (low + ·)).getD i 0 - (s + (i : Int)))
  rw [List.getD_eq_getElem?_getD (l := xs.map _), List.getElem?_map, List.getD_eq_getElem?_getD, List.getElem?_eq_getElem hi]
  show dPr (s + (i : Int), low + xs[i] - s - (i : Int)) = dPr (s + (i : Int), low + xs[i] - (s + (i : Int)))
  rw [Int.sub_sub]
theorem getD_low {low : Int} {xs : List Int} {i : Nat} (h : i < xs.length) : (xs.map (low + ·)).getD i 0 = low + xs.getD i 0 := by
  rw [List.getD_eq_getElem?_getD, List.getElem?_map, List.getD_eq_getElem?_getD, List.getElem?_eq_getElem h]
  rfl
theorem getD_in {xs : List Int} {i : Nat} (h : i < xs.length) : xs.getD i 0 ∈ xs := by
  rw [List.getD_eq_getElem?_getD, List.getElem?_eq_getElem h]
  exact List.getElem_mem h
theorem getD_le {xs : List Int} {i j : Nat} (asc : xs.Pairwise (· ≤ ·)) (h : i < j) (hj : j < xs.length) : xs.getD i 0 ≤ xs.getD j 0 := by
  rw [List.getD_eq_getElem?_getD, List.getD_eq_getElem?_getD, List.getElem?_eq_getElem hj, List.getElem?_eq_getElem (by omega)]
  exact List.pairwise_iff_getElem.mp asc i j (by omega) hj h
/-- the next week told -/
theorem told_next {bs xs : List Int} {cs : List (Int × Int)} {s e low : Int} (l0 : 0 < bs.length) (xl : xs.length = bs.length) (asc : xs.Pairwise (· ≤ ·)) (xb : ∀ v ∈ xs, 0 ≤ v ∧ v ≤ bs.length) (up : Up bs cs) (he : 0 ≤ e)
    (hl : low = lawOff bs cs (s - 1) + s - 1 - xs.getD 0 0 + e) : Up bs (cs ++ rowsOf s (xs.map (low + ·))) := by
  refine run_up l0 (by rw [List.length_map]; omega) up ?_ (fun i hi => ?_) ?_
  · rw [getD_low (by omega)]
    unfold val
    omega
  · rw [List.length_map] at hi
    rw [getD_low (by omega), getD_low hi]
    have := getD_le asc (Nat.lt_succ_self i) hi
    have e : xs.getD (i + 1) 0 = xs.getD (Nat.succ i) 0 := rfl
    omega
  · rw [List.length_map, xl, Nat.sub_self, getD_low (by omega), getD_low (by omega)]
    have := xb _ (getD_in (xs := xs) (i := 0) (by omega))
    have := xb _ (getD_in (xs := xs) (i := bs.length - 1) (by omega))
    omega
theorem up_start {start : Int} {xs : List Int} (h0 : 0 < xs.length) (asc : xs.Pairwise (· ≤ ·)) (xb : ∀ v ∈ xs, 0 ≤ v ∧ v ≤ xs.length) : Up (upWk start xs) [] := fun t => by
  have := up_rises (up := start) h0 asc xb t
  unfold val
  show t + wkOff _ t ≤ t + 1 + wkOff _ (t + 1)
  unfold Rises at *
  omega
theorem atI_int {xs : List Int} {i : Nat} (h : i < xs.length) : atI (xs.map DV.int) (i : Int) = some (.int (xs.getD i 0)) := by
  refine atI_nat (j := i) ?_
  rw [List.getElem?_map, List.getD_eq_getElem?_getD, List.getElem?_eq_getElem h]
  rfl
theorem two1000 : 2 ≤ 1000 := by decide
theorem min_pos {a b : Int} (ha : 0 < a) (hb : 0 < b) : 0 < if b < a then b else a := by split <;> assumption
theorem min_lt {a b c : Int} (ha : a < c) : (if b < a then b else a) < c := by split <;> omega
theorem lt_minI {a b k : Int} (h : k < if b < a then b else a) : k < a ∧ k < b := by split at h <;> omega
section
variable {P : Program} {w : World} {K : PySem.W.Frag} {mg : Str → Option Value} {base : Heap}
theorem scTold : FnScope ["pool", "size", "reach", "jump", "start", "base_here", "shifts", "spot", "turn", "later", "low", "at", "here"] ["pool", "size", "reach", "jump"] (defScope sTold) := ⟨rfl, rfl, rfl, by decide +kernel, rfl, by decide +kernel, by decide +kernel⟩
theorem ok_told {f fT fS fO R L : Addr} {fd dT dS dO : FuncData} (F : Fun K "_law_told" "_law_told" sTold f fd) (T : Blt mg) (ne : mg "enumerate" = none) (Dr : At P w K mg base 1 "_law_draw" ["pool", "span"] spTake fT dT) (Rs : At P w K mg base 2 "_law_rising" ["pool", "size"] spRisingL fS dS) (Of : At P w K mg base 1 "_law_offset" ["plan", "spot"] (spD (Wr R L) fOffL) fO dO) : FnOk P w K mg base CX0 3 f fd ["pool", "size", "reach", "jump"] (spD (Wr R L) fTold) := by
  refine okD F scTold (Wr R L) fTold (fun ds n K h => ?_) (fun p cdv A outer s H E hr => ?_)
  · obtain ⟨z, r, j, rfl, _⟩ := h
    rfl
  · 
    have hr1 : Room 1 _ := hr.mono (by decide)
    have hr2 : Room 2 _ := hr.mono (by decide)
    refine ⟨_, _, (dss_cons (ds_set (i := 4) scTold.nd rfl (.inr rfl) (de_op op_sub rd_I0 (de_call Dr.ok rd_draw hr1 Dr.at_ Dr.kp Dr.bi (da_cons (dv 0) (da_cons (de_op op_add rd_I0 (de_op op_mul rd_I de_int (dv 3)) de_int) da_nil))) (dv 3)))
      (dss_cons (ds_setLc (i := 5) (g := (gTup K 2 (gCons (gName 11) (gCons (gName 12) gNil)))) (own := [("at", 11), ("here", 12)]) rfl scTold.nd rfl rfl (sw_true rfl rfl rfl (by decide +kernel)) (di_enum (by rfl) ne (da_cons (de_call Rs.ok rd_risL hr2 Rs.at_ Rs.kp Rs.bi (da_cons (dv 0) (da_cons (dv 1) da_nil))) da_nil))
          (blkOk_by (N := ["pool", "size", "reach", "jump", "start", "base_here", "shifts", "spot", "turn", "later", "low", "at", "here"]) (sc := defScope sTold) (by decide +kernel)) (fun _ _ _ _ _ => (dg_tup rfl (dgs_cons (dg_name (i := 11) scTold.nd rfl (.inl rfl)) (dgs_cons (dg_name (i := 12) scTold.nd rfl (.inl rfl)) dgs_nil)) (.cons (.cons .nil)))) (fun _ _ _ _ _ => dts_nil)
          (fun _ _ _ _ _ => (de_op op_sub rd_I0 (de_op op_add rd_I0 (dv 4) (dv 12)) (dv 11))))
      (dss_cons (ds_asg [6, 7] (de_tup (da_cons (de_f (df_lst da_nil)) (da_cons (de_op op_sub rd_I0 (de_call Dr.ok rd_draw hr1 Dr.at_ Dr.kp Dr.bi (da_cons (dv 0) (da_cons (de_op op_add rd_I0 (de_op op_mul rd_I de_int (dv 2)) de_int) da_nil))) (dv 2)) da_nil))) (dg_tup rfl (dgs_cons (dg_name (i := 6) scTold.nd rfl (.inl rfl)) (dgs_cons (dg_name (i := 7) scTold.nd rfl (.inr rfl)) dgs_nil)) (.cons (.cons .nil))))
      (dss_cons (ds_for [8] PassesOwn.never rfl (di_range1 (by rfl) T.range (da_cons (de_call Dr.ok rd_draw hr1 Dr.at_ Dr.kp Dr.bi (da_cons (dv 0) (da_cons (de_b (call_min2 rfl) (by rfl) T.min (by decide +kernel) rd_C2 (da_cons de_int (da_cons (de_op op_add rd_I0 (de_op op_fdiv rd_I de_int (dv 1)) de_int) da_nil))) da_nil))) da_nil)) (dg_name (i := 8) scTold.nd rfl (.inl rfl))
        (dss_cons (ds_set (i := 9) scTold.nd rfl (.inl rfl) (de_call Rs.ok rd_risL hr2 Rs.at_ Rs.kp Rs.bi (da_cons (dv 0) (da_cons (dv 1) da_nil))))
        (dss_cons (ds_set (i := 10) scTold.nd rfl (.inr rfl) (de_op op_sub rd_I0 (de_op op_sub rd_I0 (de_op op_add rd_I0 (de_call Of.ok (rd_spD rfl) hr1 Of.at_ Of.kp Of.bi (da_cons (de_tup (da_cons (dv 5) (da_cons (dv 6) da_nil))) (da_cons (de_op op_sub rd_I0 (dv 7) de_int) da_nil))) (dv 7)) de_int) (de_ixL (dq (dv 9)) de_int)))
        (dss_cons (ds_set (i := 10) scTold.nd rfl (.inr rfl) (de_op op_add rd_I0 (dv 10) (de_op op_mul rd_I (de_call Dr.ok rd_draw hr1 Dr.at_ Dr.kp Dr.bi (da_cons (dv 0) (da_cons de_int da_nil))) (de_call Dr.ok rd_draw hr1 Dr.at_ Dr.kp Dr.bi (da_cons (dv 0) (da_cons (de_op op_add rd_I0 (dv 3) de_int) da_nil))))))
        (dss_cons (ds_set (i := 6) scTold.nd rfl (.inl rfl) (de_f (df_cat (dq (dv 6)) (dq (de_f (df_lc (g := (gTup K 2 (gCons (gName 11) (gCons (gName 12) gNil)))) (own := [("at", 11), ("here", 12)]) rfl scTold.nd (di_enum (by rfl) ne (da_cons (dv 9) da_nil))
          (blkOk_by (N := ["pool", "size", "reach", "jump", "start", "base_here", "shifts", "spot", "turn", "later", "low", "at", "here"]) (sc := defScope sTold) (by decide +kernel)) (fun _ _ _ _ _ => (dg_tup rfl (dgs_cons (dg_name (i := 11) scTold.nd rfl (.inl rfl)) (dgs_cons (dg_name (i := 12) scTold.nd rfl (.inl rfl)) dgs_nil)) (.cons (.cons .nil)))) (fun _ _ _ _ _ => dts_nil)
          (fun _ _ _ _ _ => (de_tup (da_cons (de_op op_add rd_I0 (dv 7) (dv 11)) (da_cons (de_op op_sub rd_I0 (de_op op_sub rd_I0 (de_op op_add rd_I0 (dv 10) (dv 12)) (dv 7)) (dv 11)) da_nil))))))))))
        (dss_one (ds_set (i := 7) scTold.nd rfl (.inr rfl) (de_op op_add rd_I0 (de_op op_add rd_I0 (dv 7) (dv 1)) (de_op op_mul rd_I (de_call Dr.ok rd_draw hr1 Dr.at_ Dr.kp Dr.bi (da_cons (dv 0) (da_cons de_int da_nil))) (de_call Dr.ok rd_draw hr1 Dr.at_ Dr.kp Dr.bi (da_cons (dv 0) (da_cons (de_op op_mul rd_I de_int (dv 1)) da_nil))))))))))))
      (dss_one (ds_ret (de_tup (da_cons (dv 5) (da_cons (dv 6) da_nil))))))))), fun ds n K h => ?_⟩
    obtain ⟨z, r, j, rfl, hn, ⟨z0, z1⟩, ⟨r0, r1⟩, ⟨j0, j1⟩, k⟩ := h
    refine ⟨.inl ⟨by omega, by omega⟩, by omega, by omega, by omega, fun d d0 d1 => ?_⟩
    refine ⟨z, rfl, by omega, z0, z1, fun xs asc xl xb => ?_⟩
    have x0 : 0 < xs.length := by omega
    have bl : (upWk (d - j) xs).length = xs.length := upWk_len _ xs
    have xb' : ∀ v ∈ xs, 0 ≤ v ∧ v ≤ (xs.length : Int) := fun v hv => by have := xb v hv; omega
    have up0 := up_start (start := d - j) x0 asc xb'
    have bb : ∀ v ∈ upWk (d - j) xs, -250 ≤ v ∧ v ≤ 250 := fun v hv => by
      obtain ⟨i, hi, e⟩ := List.getElem_of_mem hv
      rw [bl] at hi
      have e2 := upWk_get (up := d - j) hi
      rw [List.getElem?_eq_getElem (by omega), e] at e2
      have e3 := Option.some.inj e2
      have := xb _ (List.getElem_mem hi)
      omega
    refine ⟨by rw [List.length_map]; omega, fun i acc m => acc = (List.range i).map (fun (i : Nat) => DV.int (d - j + xs.getD i 0 - (i : Int))) ∧ m = n + 1 + 12, ⟨rfl, rfl⟩, ?_, ?_⟩
    · rintro i acc m hi ⟨rfl, rfl⟩
      have hi : i < xs.length := by simpa using hi
      simp only [getD_int hi]
      exact ⟨fun _ => ⟨acc_map rfl, rfl⟩, fun z => nomatch z⟩
    rintro acc m ⟨rfl, rfl⟩
    have eb : (List.range (xs.map DV.int).length).map (fun (i : Nat) => DV.int (d - j + xs.getD i 0 - (i : Int))) = (upWk (d - j) xs).map DV.int := by
      rw [List.length_map]
      unfold upWk
      rw [List.map_map]
      rfl
    rw [eb]
    generalize upWk (d - j) xs = bs at bl up0 bb
    have l0 : 0 < bs.length := by omega
    have lz : (bs.length : Int) = z := by omega
    refine ⟨by decide, .inl ⟨by omega, by omega⟩, by omega, by omega, by omega, fun d2 d20 d21 => ⟨two1000, ?_⟩⟩
    have h24 := Int.ediv_mul_le 24 (show z ≠ 0 by omega)
    have h25 : 0 ≤ 24 / z := Int.ediv_nonneg (by omega) (by omega)
    have h26 : 24 / z ≤ 24 := Int.ediv_le_self z (by omega)
    refine ⟨⟨by omega, by omega⟩, by omega, min_pos (by decide) (show 0 < 24 / z + 1 by omega), min_lt (by decide), fun k0 k00 k01 => ?_⟩
    have kq : k0 < 4 ∧ k0 < 24 / z + 1 := lt_minI k01
    refine ⟨by omega, by omega, ?_⟩
    have kz : k0 * z ≤ 24 := Int.le_trans (Int.mul_le_mul_of_nonneg_right (show k0 ≤ 24 / z by omega) (by omega)) h24
    refine ⟨fun i δ m => ∃ (cs : List (Int × Int)) (spot : Int) (y8 y9 y10 : Option SV), δ = [some (.dat .pool), some (.dat (.int z)), some (.dat (.int r)), some (.dat (.int j)), some (.dat (.int (d - j))), some (.dat (dInt bs)), some (.dat (dPrs cs)), some (.dat (.int spot)), y8, y9, y10, none, none] ∧
      m ≤ n + 20 + i * 20 ∧ (cs.length : Int) = i * z ∧ (cs.Pairwise fun a b => a.1 < b.1) ∧ Up bs cs ∧ (∀ c ∈ cs, c.1 < spot) ∧ (-(100 + 40 * (i : Int)) ≤ spot ∧ spot ≤ 100 + 40 * (i : Int)) ∧ ∀ c ∈ cs, (-(100 + 40 * (i : Int)) ≤ c.1) ∧ -(250 + 200 * (i : Int)) ≤ c.2 ∧ c.2 ≤ 250 + 200 * (i : Int),
      ⟨[], d2 - r, none, none, none, rfl, by omega, by simp, .nil, up0, (fun c hc => nomatch hc), ⟨by omega, by omega⟩, fun c hc => nomatch hc⟩, ?_, ?_⟩
    · rintro i δ m hi ⟨cs, spot, y8, y9, y10, rfl, hm, cl, asc1, up1, ks, ⟨sp0, sp1⟩, cb⟩
      refine ⟨z, rfl, by omega, z0, z1, fun xs2 asc2 xl2 xb2 => ?_⟩
      have x2l : xs2.length = bs.length := by omega
      refine ⟨two1000, bs, cs, spot - 1, rfl, l0, ?_⟩
      refine ⟨_, atI_int (i := 0) (by omega), ?_⟩
      refine ⟨by omega, by decide, by decide, fun e1 e10 e11 => ⟨by omega, by omega, by omega, fun e2 e20 e21 => ⟨.inl ⟨by omega, by omega⟩, ?_⟩⟩⟩
      have ee : 0 ≤ e1 * e2 ∧ e1 * e2 ≤ 100 := by
        have : e1 = 0 ∨ e1 = 1 := by omega
        rcases this with h | h <;> rw [h] <;> omega
      refine ⟨by rw [List.length_map]; omega, fun i acc m => acc = (List.range i).map (fun (i : Nat) => dPr (spot + (i : Int), lawOff bs cs (spot - 1) + spot - 1 - xs2.getD 0 0 + e1 * e2 + xs2.getD i 0 - spot - (i : Int))) ∧ m = _, ⟨rfl, rfl⟩, ?_, ?_⟩
      · rintro i2 acc m2 hi2 ⟨rfl, rfl⟩
        have hi2 : i2 < xs2.length := by simpa using hi2
        simp only [getD_int hi2]
        exact ⟨fun _ => ⟨two1000, acc_map rfl, rfl⟩, fun z => nomatch z⟩
      rintro acc m2 ⟨rfl, rfl⟩
      have er : (List.range (xs2.map DV.int).length).map (fun (i : Nat) => dPr (spot + (i : Int), lawOff bs cs (spot - 1) + spot - 1 - xs2.getD 0 0 + e1 * e2 + xs2.getD i 0 - spot - (i : Int))) = (rowsOf spot (xs2.map ((lawOff bs cs (spot - 1) + spot - 1 - xs2.getD 0 0 + e1 * e2) + ·))).map dPr := by
        rw [List.length_map]
        exact rows_eq
      have rl : (rowsOf spot (xs2.map ((lawOff bs cs (spot - 1) + spot - 1 - xs2.getD 0 0 + e1 * e2) + ·))).length = bs.length := by rw [rowsOf_len, List.length_map, x2l]
      have up2 := told_next (s := spot) (e := e1 * e2) l0 x2l asc2 (fun v hv => by have := xb2 v hv; omega) up1 ee.1 rfl
      have lb : -(250 + 200 * (i : Int)) ≤ lawOff bs cs (spot - 1) ∧ lawOff bs cs (spot - 1) ≤ 250 + 200 * (i : Int) := by
        rcases lawOff_mem (cs := cs) (t := spot - 1) l0 with h | ⟨c, hc, h⟩
        · have := bb _ h
          omega
        · rw [h]
          exact (cb c hc).2
      have x20 := xb2 _ (getD_in (xs := xs2) (i := 0) (by omega))
      generalize hL : lawOff bs cs (spot - 1) + spot - 1 - xs2.getD 0 0 + e1 * e2 = low at er rl up2
      have rb : ∀ c ∈ rowsOf spot (xs2.map (low + ·)), (spot ≤ c.1 ∧ c.1 < spot + z) ∧ -(250 + 200 * ((i + 1 : Nat) : Int)) ≤ c.2 ∧ c.2 ≤ 250 + 200 * ((i + 1 : Nat) : Int) := fun c hc => by
        obtain ⟨t, ht, e3, e4⟩ := rowsOf_mem hc
        rw [List.length_map] at ht
        rw [getD_low ht] at e4
        have := xb2 _ (getD_in (xs := xs2) ht)
        omega
      rw [er]
      have iz : (i : Int) * z ≤ 24 := Int.le_trans (Int.mul_le_mul_of_nonneg_right (show (i : Int) ≤ k0 by omega) (by omega)) kz
      rw [← cl] at iz
      refine ⟨by rw [List.length_map, List.length_map, rl]; omega, ?_⟩
      refine ⟨by omega, by decide, by decide, fun g1 g10 g11 => ⟨.inl ⟨by decide, by decide⟩, by omega, by omega, by omega, fun g2 g20 g21 => ⟨.inl ⟨by omega, by omega⟩, ?_⟩⟩⟩
      have gg : 0 ≤ g1 * g2 ∧ g1 * g2 ≤ 24 := by
        have : g1 = 0 ∨ g1 = 1 := by omega
        rcases this with h | h <;> rw [h] <;> omega
      refine ⟨cs ++ rowsOf spot (xs2.map (low + ·)), spot + z + g1 * g2, some (.dat (.int (0 + (i : Int)))), some (.dat (dInt xs2)), some (.dat (.int (lawOff bs cs (spot - 1) + spot - 1 - xs2.getD 0 0 + e1 * e2))), ?_, by omega, ?_, ?_, up2, ?_, by omega, ?_⟩
      · rw [← List.map_append]
        rfl
      · rw [List.length_append, rl]
        push_cast
        rw [Int.add_mul, cl, lz, Int.one_mul]
      · refine List.pairwise_append.mpr ⟨asc1, rowsOf_asc _ _, fun a ha b hb => ?_⟩
        have := ks a ha
        have := (rb b hb).1.1
        omega
      · intro c hc
        rcases List.mem_append.mp hc with h | h
        · have := ks c h
          omega
        · have := (rb c h).1.2
          omega
      · intro c hc
        rcases List.mem_append.mp hc with h | h
        · have := cb c h
          omega
        · have := rb c h
          omega
    · rintro δ m ⟨cs, spot, y8, y9, y10, rfl, hm, cl, asc1, up1, ks, ⟨sp0, sp1⟩, cb⟩
      have ek : ((k0.toNat : Nat) : Int) = k0 := Int.toNat_of_nonneg k00
      rw [ek] at cl
      refine ⟨two1000, k bs cs m ⟨lz, asc1, up1, by omega, fun v hv => by have := bb v hv; omega, fun c hc => ?_⟩ (by omega)⟩
      have := cb c hc
      have := ks c hc
      omega
end

/-! ### the plan of a law -/
theorem range_map {α β : Type} (l : List α) (z : α) (f : α → β) : (List.range l.length).map (fun (i : Nat) => f (l.getD i z)) = l.map f := by
  refine List.ext_getElem? fun i => ?_
  rw [List.getElem?_map, List.getElem?_map]
  by_cases h : i < l.length
  · rw [List.getElem?_range h, List.getElem?_eq_getElem h]
    show some (f (l.getD i z)) = _
    rw [List.getD_eq_getElem?_getD, List.getElem?_eq_getElem h]
    rfl
  · rw [List.getElem?_eq_none (by rw [List.length_range]; omega), List.getElem?_eq_none (by omega)]
    rfl
theorem getD_pr {cs : List (Int × Int)} {i : Nat} (h : i < cs.length) : (cs.map dPr).getD i .non = dPr (cs.getD i (0, 0)) := by
  rw [getD_prs h, List.getD_eq_getElem?_getD, List.getElem?_eq_getElem h]
  rfl
structure PlanOk (z b : Int) (bs : List Int) (cs : List (Int × Int)) : Prop where
  len : (bs.length : Int) = z
  z0 : 1 ≤ z
  z1 : z ≤ 12
  asc : cs.Pairwise fun a b => a.1 < b.1
  up : Up bs cs
  many : cs.length ≤ 24
  bb : ∀ v ∈ bs, -b ≤ v ∧ v ≤ b
  cb : ∀ c ∈ cs, (-b ≤ c.1 ∧ c.1 ≤ b) ∧ -b ≤ c.2 ∧ c.2 ≤ b
theorem PlanOk.idle {z b m : Int} {bs : List Int} {xs ys : List (Int × Int)} (k : PlanOk z b bs xs) (nc : m ∉ xs.map (·.1)) (p : ys.Perm (xs ++ [(m, lawOff bs xs m)])) (s : ys.Pairwise fun a b => a.1 ≤ b.1) (l : xs.length < 24) (mb : -b ≤ m ∧ m ≤ b) : PlanOk z b bs ys ∧ ys.length = xs.length + 1 := by
  have l0 : 0 < bs.length := by have := k.len; have := k.z0; omega
  obtain ⟨sy, same⟩ := idle_up l0 k.asc nc p s
  have yl : ys.length = xs.length + 1 := by
    rw [p.length_eq, List.length_append]
    rfl
  refine ⟨⟨k.len, k.z0, k.z1, sy, fun t => ?_, by omega, k.bb, fun c hc => ?_⟩, yl⟩
  · have := k.up t
    unfold val at *
    rw [same, same]
    exact this
  · rcases List.mem_append.mp (p.mem_iff.mp hc) with h | h
    · exact k.cb c h
    · obtain rfl := List.mem_singleton.mp h
      refine ⟨mb, ?_⟩
      rcases lawOff_mem (cs := xs) (t := m) l0 with h | ⟨c, hc, h⟩
      · exact k.bb _ h
      · show -b ≤ lawOff bs xs m ∧ lawOff bs xs m ≤ b
        rw [h]
        exact (k.cb c hc).2
def fPlan : FD := fun ds n K => ds = [.pool] ∧ n ≤ 10 ^ 6 ∧ ∀ z bs cs m, PlanOk z (3 * 10 ^ 31) bs cs → m ≤ n + 300 → K (.tup [dInt bs, dPrs cs]) m
theorem sign3 {d x b : Int} (h0 : 0 ≤ d) (h1 : d < 3) (x0 : 0 ≤ x) (x1 : x ≤ b) : -b ≤ (d - 1) * x ∧ (d - 1) * x ≤ b := by
  have : d - 1 = -1 ∨ d - 1 = 0 ∨ d - 1 = 1 := by omega
  rcases this with h | h | h <;> rw [h] <;> omega
theorem one1000 : 1 ≤ 1000 := by decide
theorem min_ge {a b c : Int} (ha : c ≤ a) (hb : c ≤ b) : c ≤ if b < a then b else a := by split <;> assumption
theorem lt_toNat {i : Nat} {x : Int} (h : i < x.toNat) : (i : Int) < x := by omega
theorem toNat_min {a b c : Int} (h : b < c) : ((if b < a then b else a).toNat : Int) ≤ max 0 (c - 1) := by split <;> omega
section
variable {P : Program} {w : World} {K : PySem.W.Frag} {mg : Str → Option Value} {base : Heap}
theorem scPlan : FnScope ["pool", "size", "plan", "far", "up", "base_here", "shifts", "turn", "spot", "here", "at"] ["pool"] (defScope sPlan) := ⟨rfl, rfl, rfl, by decide +kernel, rfl, by decide +kernel, by decide +kernel⟩
theorem ok_plan {f fT fO fL R L : Addr} {fd dT dO dL : FuncData} (F : Fun K "_law_plan" "_law_plan" sPlan f fd) (T : Blt mg) (T5 : Blt5 mg) (Dr : At P w K mg base 1 "_law_draw" ["pool", "span"] spTake fT dT) (Of : At P w K mg base 1 "_law_offset" ["plan", "spot"] (spD (Wr R L) fOffL) fO dO) (To : At P w K mg base 3 "_law_told" ["pool", "size", "reach", "jump"] (spD (Wr R L) fTold) fL dL) : FnOk P w K mg base CX0 4 f fd ["pool"] (spD (Wr R L) fPlan) := by
  refine okD F scPlan (Wr R L) fPlan (fun ds n K h => ?_) (fun p cdv A outer s H E hr => ?_)
  · obtain ⟨rfl, _⟩ := h
    rfl
  · 
    have hr1 : Room 1 _ := hr.mono (by decide)
    have hr3 : Room 3 _ := hr.mono (by decide)
    refine ⟨_, _, (dss_cons (ds_set (i := 1) scPlan.nd rfl (.inl rfl) (de_op op_add rd_I0 de_int (de_call Dr.ok rd_draw hr1 Dr.at_ Dr.kp Dr.bi (da_cons (dv 0) (da_cons de_int da_nil)))))
      (dss_cons (ds_set (i := 2) scPlan.nd rfl (.inl rfl) (de_call To.ok (rd_spD rfl) hr3 To.at_ To.kp To.bi (da_cons (dv 0) (da_cons (dv 1) (da_cons de_int (da_cons de_int da_nil))))))
      (dss_cons (ds_set (i := 3) scPlan.nd rfl (.inr rfl) (de_op op_mul rd_I (de_op op_mul rd_I (dv 1) (de_op op_sub rd_I0 (de_call Dr.ok rd_draw hr1 Dr.at_ Dr.kp Dr.bi (da_cons (dv 0) (da_cons de_int da_nil))) de_int)) (de_call Dr.ok rd_draw hr1 Dr.at_ Dr.kp Dr.bi (da_cons (dv 0) (da_cons (de_op op_fdiv rd_I (de_op op_sub rd_I0 (de_op op_pow rd_I de_int de_int) de_int) (dv 1)) da_nil)))))
      (dss_cons (ds_set (i := 4) scPlan.nd rfl (.inr rfl) (de_op op_mul rd_I (de_call Dr.ok rd_draw hr1 Dr.at_ Dr.kp Dr.bi (da_cons (dv 0) (da_cons de_int da_nil))) (de_op op_add rd_I0 (de_op op_sub rd_I0 (de_call Dr.ok rd_draw hr1 Dr.at_ Dr.kp Dr.bi (da_cons (dv 0) (da_cons (de_op op_sub rd_I0 (de_op op_mul rd_I de_int (de_op op_pow rd_I de_int de_int)) de_int) da_nil))) (de_op op_pow rd_I de_int de_int)) de_int)))
      (dss_cons (ds_setLc (i := 5) (own := [("here", 9)]) rfl scPlan.nd rfl rfl (sw_true rfl rfl rfl (by decide +kernel)) (di_list (de_ixT (dv 2) de_int))
          (blkOk_by (N := ["pool", "size", "plan", "far", "up", "base_here", "shifts", "turn", "spot", "here", "at"]) (sc := defScope sPlan) (by decide +kernel)) (fun _ _ _ _ _ => (dg_name (i := 9) scPlan.nd rfl (.inl rfl))) (fun _ _ _ _ _ => dts_nil)
          (fun _ _ _ _ _ => (de_op op_add rd_I0 (dv 9) (dv 4))))
      (dss_cons (ds_setLc (i := 6) (g := (gTup K 2 (gCons (gName 10) (gCons (gName 9) gNil)))) (own := [("at", 10), ("here", 9)]) rfl scPlan.nd rfl rfl (sw_true rfl rfl rfl (by decide +kernel)) (di_list (de_ixT (dv 2) de_int))
          (blkOk_by (N := ["pool", "size", "plan", "far", "up", "base_here", "shifts", "turn", "spot", "here", "at"]) (sc := defScope sPlan) (by decide +kernel)) (fun _ _ _ _ _ => (dg_tup rfl (dgs_cons (dg_name (i := 10) scPlan.nd rfl (.inl rfl)) (dgs_cons (dg_name (i := 9) scPlan.nd rfl (.inl rfl)) dgs_nil)) (.cons (.cons .nil)))) (fun _ _ _ _ _ => dts_nil)
          (fun _ _ _ _ _ => (de_tup (da_cons (de_op op_add rd_I0 (dv 10) (dv 3)) (da_cons (de_op op_add rd_I0 (dv 9) (dv 4)) da_nil)))))
      (dss_cons (ds_for [7] PassesOwn.never rfl (di_range1 (by rfl) T.range (da_cons (de_b (call_min2 rfl) (by rfl) T.min (by decide +kernel) rd_C2 (da_cons (de_op op_sub rd_I0 de_int (de_bQ call_len_seq (by rfl) T.len PySem.boot_len rd_len (dq (dv 6)))) (da_cons (de_call Dr.ok rd_draw hr1 Dr.at_ Dr.kp Dr.bi (da_cons (dv 0) (da_cons de_int da_nil))) da_nil))) da_nil)) (dg_name (i := 7) scPlan.nd rfl (.inl rfl))
        (dss_cons (ds_set (i := 8) scPlan.nd rfl (.inl rfl) (de_op op_sub rd_I0 (de_op op_add rd_I0 (dv 3) (de_call Dr.ok rd_draw hr1 Dr.at_ Dr.kp Dr.bi (da_cons (dv 0) (da_cons de_int da_nil)))) de_int))
        (dss_one (ds_if (dt_cmp (hm := rfl) op_notInI rd_notInI (dv 8) (de_f (df_lc (g := (gTup K 2 (gCons (gName 10) (gCons (gName 9) gNil)))) (own := [("at", 10), ("here", 9)]) rfl scPlan.nd (di_list (dv 6))
          (blkOk_by (N := ["pool", "size", "plan", "far", "up", "base_here", "shifts", "turn", "spot", "here", "at"]) (sc := defScope sPlan) (by decide +kernel)) (fun _ _ _ _ _ => (dg_tup rfl (dgs_cons (dg_name (i := 10) scPlan.nd rfl (.inl rfl)) (dgs_cons (dg_name (i := 9) scPlan.nd rfl (.inl rfl)) dgs_nil)) (.cons (.cons .nil)))) (fun _ _ _ _ _ => dts_nil)
          (fun _ _ _ _ _ => (dv 10)))))
          (dss_one (ds_set (i := 6) scPlan.nd rfl (.inl rfl) (de_f (df_bQ cr_sortedPO (by rfl) T5.sorted (by decide +kernel) rd_sortedP (dq (de_f (df_cat (dq (dv 6)) (dq (de_f (df_lst (da_cons (de_tup (da_cons (dv 8) (da_cons (de_call Of.ok (rd_spD rfl) hr1 Of.at_ Of.kp Of.bi (da_cons (de_tup (da_cons (dv 5) (da_cons (dv 6) da_nil))) (da_cons (dv 8) da_nil))) da_nil))) da_nil)))))))))))
          dss_nil))))
      (dss_one (ds_ret (de_tup (da_cons (dv 5) (da_cons (dv 6) da_nil)))))))))))), fun ds n K h => ?_⟩
    obtain ⟨rfl, hn, k⟩ := h
    refine ⟨by omega, by decide, by decide, fun d d0 d1 => ?_⟩
    refine ⟨1 + d, 20, 9, rfl, by omega, ⟨by omega, by omega⟩, by decide, by decide, fun bs cs m td hm => ?_⟩
    have l0 : 0 < bs.length := by have := td.len; omega
    refine ⟨by omega, by decide, by decide, fun f1 f10 f11 => ⟨.inl ⟨by omega, by omega⟩, ?_⟩⟩
    have y0 : 0 < (10 ^ 31 - 400) / (1 + d) := by
      have := Int.le_ediv_of_mul_le (a := 1) (b := 10 ^ 31 - 400) (show 0 < 1 + d by omega) (by omega)
      omega
    have y1 : (10 ^ 31 - 400) / (1 + d) < 2 ^ 200 := Int.lt_of_le_of_lt (Int.ediv_le_self _ (by decide)) (by decide)
    have y2 := Int.mul_ediv_self_le (x := 10 ^ 31 - 400) (show 1 + d ≠ 0 by omega)
    refine ⟨⟨by decide, by decide, by decide⟩, ⟨by omega, by omega⟩, by omega, y0, y1, fun f2 f20 f21 => ⟨.inl ⟨?_, ?_⟩, ?_⟩⟩
    · have := sign3 f10 f11 (show 0 ≤ 1 + d by omega) (show 1 + d ≤ 12 by omega)
      rw [Int.mul_comm] at this
      show -(2 ^ 64) < (1 + d) * (f1 - 1)
      omega
    · have := sign3 f10 f11 (show 0 ≤ 1 + d by omega) (show 1 + d ≤ 12 by omega)
      rw [Int.mul_comm] at this
      show (1 + d) * (f1 - 1) < 2 ^ 64
      omega
    have f22 : f2 < (10 ^ 31 - 400) / (1 + d) := f21
    have y3 : 0 ≤ (1 + d) * f2 := Int.mul_nonneg (by omega) f20
    have y4 : (1 + d) * f2 ≤ 10 ^ 31 - 400 := Int.le_trans (Int.mul_le_mul_of_nonneg_left (Int.le_of_lt f22) (by omega)) y2
    have farb := sign3 f10 f11 y3 y4
    have fare : (1 + d) * (f1 - 1) * f2 = (f1 - 1) * ((1 + d) * f2) := by rw [Int.mul_comm (1 + d) (f1 - 1), Int.mul_assoc]
    have farm : (1 + d) * (f1 - 1) * f2 % (bs.length : Int) = 0 := by
      rw [td.len, Int.mul_assoc, Int.mul_emod_right]
    rw [← fare] at farb
    refine ⟨by omega, by decide, by decide, fun u1 u10 u11 => ?_⟩
    refine ⟨⟨by decide, by decide, by decide⟩, .inl ⟨by decide, by decide⟩, by omega, by decide, by decide, fun u2 u20 u21 => ?_⟩
    refine ⟨⟨by decide, by decide, by decide⟩, .inl ⟨by omega, by omega⟩, ?_⟩
    have u22 : u2 < 2 * 10 ^ 31 - 200 := u21
    have upb : -(10 ^ 31) ≤ u1 * (u2 - 10 ^ 31 + 100) ∧ u1 * (u2 - 10 ^ 31 + 100) ≤ 10 ^ 31 := by
      have : u1 = 0 ∨ u1 = 1 := by omega
      rcases this with h | h <;> rw [h] <;> omega
    refine ⟨_, rfl, ?_⟩
    refine ⟨by rw [List.length_map]; have := td.len; omega, fun i acc m' => acc = (List.range i).map (fun (i : Nat) => DV.int (bs.getD i 0 + u1 * (u2 - 10 ^ 31 + 100))) ∧ m' = m + 4, ⟨rfl, rfl⟩, ?_, ?_⟩
    · rintro i acc m' hi ⟨rfl, rfl⟩
      have hi : i < bs.length := by simpa using hi
      simp only [getD_int hi]
      exact ⟨fun _ => ⟨acc_map rfl, rfl⟩, fun z => nomatch z⟩
    rintro acc m' ⟨rfl, rfl⟩
    refine ⟨_, rfl, ?_⟩
    refine ⟨by rw [List.length_map]; have := td.many; omega, fun i acc m' => acc = (List.range i).map (fun (i : Nat) => dPr ((cs.getD i (0, 0)).1 + (1 + d) * (f1 - 1) * f2, (cs.getD i (0, 0)).2 + u1 * (u2 - 10 ^ 31 + 100))) ∧ m' = m + 4, ⟨rfl, rfl⟩, ?_, ?_⟩
    · rintro i acc m' hi ⟨rfl, rfl⟩
      have hi : i < cs.length := by simpa using hi
      simp only [getD_pr hi]
      exact ⟨fun _ => ⟨two1000, acc_map rfl, rfl⟩, fun z => nomatch z⟩
    rintro acc m' ⟨rfl, rfl⟩
    have up2 := moved_up (up := u1 * (u2 - 10 ^ 31 + 100)) l0 farm td.up
    have e1 : (List.range (bs.map DV.int).length).map (fun (i : Nat) => DV.int (bs.getD i 0 + u1 * (u2 - 10 ^ 31 + 100))) = (bs.map (· + u1 * (u2 - 10 ^ 31 + 100))).map DV.int := by
      rw [List.length_map, List.map_map]
      exact range_map bs 0 fun x => DV.int (x + u1 * (u2 - 10 ^ 31 + 100))
    have e2 : (List.range (cs.map dPr).length).map (fun (i : Nat) => dPr ((cs.getD i (0, 0)).1 + (1 + d) * (f1 - 1) * f2, (cs.getD i (0, 0)).2 + u1 * (u2 - 10 ^ 31 + 100))) = (cs.map fun c => (c.1 + (1 + d) * (f1 - 1) * f2, c.2 + u1 * (u2 - 10 ^ 31 + 100))).map dPr := by
      rw [List.length_map, List.map_map]
      exact range_map cs (0, 0) fun c => dPr (c.1 + (1 + d) * (f1 - 1) * f2, c.2 + u1 * (u2 - 10 ^ 31 + 100))
    rw [e1, e2]
    have pk : PlanOk (1 + d) (3 * 10 ^ 31) (bs.map (· + u1 * (u2 - 10 ^ 31 + 100))) (cs.map fun c => (c.1 + (1 + d) * (f1 - 1) * f2, c.2 + u1 * (u2 - 10 ^ 31 + 100))) := by
      refine ⟨by rw [List.length_map]; exact td.len, by omega, by omega, List.pairwise_map.mpr (td.asc.imp fun {a b} h => ?_), up2, by rw [List.length_map]; exact td.many, fun v hv => ?_, fun c hc => ?_⟩
      · show a.1 + _ < b.1 + _
        omega
      · obtain ⟨x, hx, rfl⟩ := List.mem_map.mp hv
        have := td.bb x hx
        omega
      · obtain ⟨x, hx, rfl⟩ := List.mem_map.mp hc
        have := td.cb x hx
        show (_ ≤ x.1 + _ ∧ x.1 + _ ≤ _) ∧ _ ≤ x.2 + _ ∧ x.2 + _ ≤ _
        omega
    have cl : (cs.map fun c => (c.1 + (1 + d) * (f1 - 1) * f2, c.2 + u1 * (u2 - 10 ^ 31 + 100))).length = cs.length := List.length_map _
    generalize bs.map (· + u1 * (u2 - 10 ^ 31 + 100)) = B at pk
    generalize (cs.map fun c => (c.1 + (1 + d) * (f1 - 1) * f2, c.2 + u1 * (u2 - 10 ^ 31 + 100))) = C at pk cl
    have many := td.many
    have lB : 0 < B.length := by have := pk.len; omega
    refine ⟨by omega, by decide, by decide, fun r r0 r1 => ⟨min_ge ?_ ?_, min_lt ?_, ?_⟩⟩
    · show (-(2 ^ 62) : Int) ≤ 24 - ((C.map dPr).length : Int)
      rw [List.length_map]
      omega
    · omega
    · show 24 - ((C.map dPr).length : Int) < (2 ^ 62 : Int)
      omega
    refine ⟨fun i δ m' => ∃ (ys : List (Int × Int)) (y7 y8 : Option SV), δ = [some (.dat .pool), some (.dat (.int (1 + d))), some (.dat (.tup [dInt bs, dPrs cs])), some (.dat (.int ((1 + d) * (f1 - 1) * f2))), some (.dat (.int (u1 * (u2 - 10 ^ 31 + 100)))), some (.dat (dInt B)), some (.dat (dPrs ys)), y7, y8, none, none] ∧
      m' ≤ n + 220 + 10 * i ∧ PlanOk (1 + d) (3 * 10 ^ 31) B ys ∧ ys.length ≤ C.length + i, ⟨C, none, none, rfl, by omega, pk, by omega⟩, ?_, ?_⟩
    · rintro i δ m' hi ⟨ys, y7, y8, rfl, hm', pk, yl⟩
      have hi2 : (i : Int) < 24 - ((C.map dPr).length : Int) ∧ (i : Int) < r := lt_minI (lt_toNat hi)
      rw [List.length_map] at hi2
      refine ⟨by omega, by decide, by decide, fun q q0 q1 => ?_⟩
      refine ⟨by rw [List.length_map]; omega, fun i acc m2 => acc = (List.range i).map (fun (i : Nat) => DV.int ((ys.getD i (0, 0)).1)) ∧ m2 = m' + 1, ⟨rfl, rfl⟩, ?_, ?_⟩
      · rintro i2 acc m2 hi2 ⟨rfl, rfl⟩
        have hi2 : i2 < ys.length := by simpa using hi2
        simp only [getD_pr hi2]
        exact ⟨fun _ => ⟨acc_map rfl, rfl⟩, fun z => nomatch z⟩
      rintro acc m2 ⟨rfl, rfl⟩
      have e3 : (List.range (ys.map dPr).length).map (fun (i : Nat) => DV.int ((ys.getD i (0, 0)).1)) = (ys.map (·.1)).map DV.int := by
        rw [List.length_map, List.map_map]
        exact range_map ys (0, 0) fun c => DV.int c.1
      rw [e3]
      refine ⟨(1 + d) * (f1 - 1) * f2 + q - 40, ys.map (·.1), rfl, rfl, fun g => ?_, fun g => ?_⟩
      · have nc : (1 + d) * (f1 - 1) * f2 + q - 40 ∉ ys.map (·.1) := by
          have g2 : (!decide ((1 + d) * (f1 - 1) * f2 + q - 40 ∈ ys.map (·.1))) = true := g
          simpa using g2
        refine ⟨two1000, B, ys, _, rfl, lB, two1000, one1000, ?_, ys ++ [((1 + d) * (f1 - 1) * f2 + q - 40, lawOff B ys ((1 + d) * (f1 - 1) * f2 + q - 40))], ?_, fun zs pz sz => ?_⟩
        · rw [List.length_map]
          show ys.length + 1 ≤ 100000
          omega
        · rw [List.map_append]
          rfl
        · obtain ⟨pk2, l2⟩ := pk.idle nc pz sz (by omega) (by omega)
          exact ⟨zs, some (.dat (.int (0 + (i : Int)))), some (.dat (.int ((1 + d) * (f1 - 1) * f2 + q - 40))), rfl, by omega, pk2, by omega⟩
      · exact ⟨ys, some (.dat (.int (0 + (i : Int)))), some (.dat (.int ((1 + d) * (f1 - 1) * f2 + q - 40))), rfl, by omega, pk, by omega⟩
    · rintro δ m' ⟨ys, y7, y8, rfl, hm', pk, yl⟩
      have hb := toNat_min (a := 24 - ((C.map dPr).length : Int)) (b := r) r1
      have hm2 : m' ≤ n + 220 + 10 * (if r < 24 - ((C.map dPr).length : Int) then r else 24 - ((C.map dPr).length : Int)).toNat := hm'
      generalize (if r < 24 - ((C.map dPr).length : Int) then r else 24 - ((C.map dPr).length : Int)).toNat = N at hm2 hb
      exact ⟨two1000, k _ _ _ _ pk (by omega)⟩
end

/-! ### the changes that a law needs; the shape of a rule -/
theorem take_filter {α : Type} {l : List α} {i : Nat} (p : α → Bool) (h : i < l.length) : (l.take (i + 1)).filter p = (l.take i).filter p ++ (if p l[i] = true then [l[i]] else []) := by
  rw [List.take_add_one, List.getElem?_eq_getElem h, List.filter_append]
  congr 1
  show List.filter p [l[i]] = _
  by_cases g : p l[i] = true
  · rw [if_pos g, List.filter_cons_of_pos g]
    rfl
  · rw [if_neg g, List.filter_cons_of_neg g]
    rfl
theorem ne_int (a b : Int) : (!decide (V.int a = V.int b)) = !decide (a = b) := by
  by_cases h : a = b
  · subst h
    simp
  · have : ¬ V.int a = V.int b := fun z => h (V.int.inj z)
    simp [h, this]
theorem eq_int (a b : Int) : decide (V.int a = V.int b) = decide (a = b) := by
  by_cases h : a = b
  · subst h
    simp
  · have : ¬ V.int a = V.int b := fun z => h (V.int.inj z)
    simp [h, this]
def fNeed : FD := fun ds n K => ∃ bs cs, ds = [.tup [dInt bs, dPrs cs]] ∧ 0 < bs.length ∧ cs.length ≤ 1000 ∧ K (dPrs (needed bs cs)) n
def fShape : FD := fun ds n K => ∃ bs cs, ds = [.obj (.rul bs cs)] ∧ cs.length ≤ 60 ∧ (∀ v ∈ bs, -10 ^ 40 < v ∧ v < 10 ^ 40) ∧ (∀ m ∈ cs, -10 ^ 40 < m.1 ∧ m.1 < 10 ^ 40 ∧ -10 ^ 40 < m.2 ∧ m.2 < 10 ^ 40) ∧ K (.str (shapeD bs cs).shown) n
theorem rd_shape {R L : Addr} {p : Option Addr} : RdFn ((Wr R L).at p) (spShape R L) fShape := fun M H vs ds n Q E K dm pp r c h => by
  obtain ⟨bs, cs, rfl, h1, h2, h3, h⟩ := h
  obtain ⟨v, rfl, r1⟩ := r.one_inv
  obtain ⟨x, av, rfl, ru, k⟩ := rul_inv r1
  exact ⟨x, av, bs, cs, rfl, ru, k.l1, h1, h2, h3, fun H' s => c _ _ _ _ (FrS.of s) (pl_same (poolPl pp) s) (.str _) h⟩
section
variable {P : Program} {w : World} {K : PySem.W.Frag} {mg : Str → Option Value} {base : Heap}
theorem scNeeded : FnScope ["plan", "found", "at", "here", "pair"] ["plan"] (defScope sNeeded) := ⟨rfl, rfl, rfl, by decide +kernel, rfl, by decide +kernel, by decide +kernel⟩
theorem ok_need {f fO R L : Addr} {fd dO : FuncData} (F : Fun K "_law_needed" "_law_needed" sNeeded f fd) (Of : At P w K mg base 1 "_law_offset" ["plan", "spot"] (spD (Wr R L) fOffL) fO dO) : FnOk P w K mg base CX0 2 f fd ["plan"] (spD (Wr R L) fNeed) := by
  refine okD F scNeeded (Wr R L) fNeed (fun ds n K h => ?_) (fun p cdv A outer s H E hr => ?_)
  · obtain ⟨bs, cs, rfl, _⟩ := h
    rfl
  · 
    have hr1 : Room 1 _ := hr.mono (by decide)
    refine ⟨_, _, (dss_cons (ds_setO (i := 1) scNeeded.nd rfl (.inl rfl) (df_lst da_nil))
      (dss_cons (ds_for [2, 3] PassesOwn.never rfl (di_list (de_ixT (dv 0) de_int)) (dg_tup rfl (dgs_cons (dg_name (i := 2) scNeeded.nd rfl (.inr rfl)) (dgs_cons (dg_name (i := 3) scNeeded.nd rfl (.inl rfl)) dgs_nil)) (.cons (.cons .nil)))
        (dss_one (ds_if (dt_cmp op_ne rd_Ne (de_call Of.ok (rd_spD rfl) hr1 Of.at_ Of.kp Of.bi (da_cons (de_tup (da_cons (de_ixT (dv 0) de_int) (da_cons (de_f (df_lc (tt := (tTest (tOp _ (tOp (rIxT K) _ _) _))) (own := [("pair", 4)]) rfl scNeeded.nd (di_list (de_ixT (dv 0) de_int))
          (blkOk_by (N := ["plan", "found", "at", "here", "pair"]) (sc := defScope sNeeded) (by decide +kernel)) (fun _ _ _ _ _ => (dg_name (i := 4) scNeeded.nd rfl (.inl rfl))) (fun _ _ _ _ _ => dts_one (dt_cmp op_lt rd_B0 (de_ixT (dv 4) de_int) (dv 2)))
          (fun _ _ _ _ _ => (dv 4)))) da_nil))) (da_cons (dv 2) da_nil))) (dv 3))
          (dss_one (ds_app 1 (he := (de_tup (da_cons (dv 2) (da_cons (dv 3) da_nil))))))
          dss_nil)))
      (dss_frz 1 (dss_one (ds_ret (dv 1)))))), fun ds n K h => ?_⟩
    obtain ⟨bs, cs, rfl, l0, cl, k⟩ := h
    refine ⟨by decide, ?_⟩
    refine ⟨_, rfl, ?_⟩
    refine ⟨fun i δ m => ∃ y2 y3 : Option SV, δ = [some (.dat (.tup [dInt bs, dPrs cs])), some (.own (((cs.take i).filter fun c => !decide (lawOff bs (cs.filter fun d => decide (d.1 < c.1)) c.1 = c.2)).map dPr)), y2, y3, none] ∧ m = n, ⟨none, none, rfl, rfl⟩, ?_, ?_⟩
    · rintro i δ m hi ⟨y2, y3, rfl, rfl⟩
      have hi2 : i < cs.length := by simpa using hi
      simp only [getD_prs hi2]
      refine ⟨_, rfl, _, rfl, ?_⟩
      refine ⟨by rw [List.length_map]; omega, fun j acc m2 => acc = ((cs.take j).filter fun d => decide (d.1 < cs[i].1)).map dPr ∧ m2 = m, ⟨rfl, rfl⟩, ?_, ?_⟩
      · rintro j acc m2 hj ⟨rfl, rfl⟩
        have hj2 : j < cs.length := by simpa using hj
        simp only [getD_prs hj2]
        refine ⟨_, rfl, fun g => ?_, fun g => ?_⟩
        · have g2 : decide (cs[j].1 < cs[i].1) = true := g
          refine ⟨?_, rfl⟩
          rw [take_filter _ hj2, if_pos g2, List.map_append]
          rfl
        · have g2 : ¬ decide (cs[j].1 < cs[i].1) = true := fun z => by
            rw [show decide (cs[j].1 < cs[i].1) = false from g] at z
            cases z
          refine ⟨?_, rfl⟩
          rw [take_filter _ hj2, if_neg g2, List.append_nil]
      rintro acc m2 ⟨rfl, rfl⟩
      rw [List.length_map (as := cs), List.take_length]
      refine ⟨two1000, bs, cs.filter fun d => decide (d.1 < cs[i].1), cs[i].1, rfl, l0, rfl, fun g => ?_, fun g => ?_⟩
      · have g2 : (!decide (lawOff bs (cs.filter fun d => decide (d.1 < cs[i].1)) cs[i].1 = cs[i].2)) = true := by
          rw [← ne_int]
          exact g
        refine ⟨two1000, ?_, ?_⟩
        · rw [List.length_map]
          have := List.length_filter_le (fun c => !decide (lawOff bs (cs.filter fun d => decide (d.1 < c.1)) c.1 = c.2)) (cs.take i)
          have := List.length_take_le i cs
          omega
        · refine ⟨some (.dat (.int cs[i].1)), some (.dat (.int cs[i].2)), ?_, rfl⟩
          rw [take_filter _ hi2, if_pos g2, List.map_append]
          rfl
      · refine ⟨some (.dat (.int cs[i].1)), some (.dat (.int cs[i].2)), ?_, rfl⟩
        rw [take_filter _ hi2, if_neg ?_, List.append_nil]
        · rfl
        · rw [← ne_int]
          intro z
          have g2 : (!decide (V.int (lawOff bs (cs.filter fun d => decide (d.1 < cs[i].1)) cs[i].1) = V.int cs[i].2)) = false := g
          rw [g2] at z
          cases z
    · rintro δ m ⟨y2, y3, rfl, rfl⟩
      rw [List.length_map (as := cs), List.take_length]
      exact k
end

/-! ### made(k = v, ..): an instance called by keywords alone -/
theorem callO_ofK {M : Model} {A : Around} {E : Value → Shared → Prop} {s : Shared} {a : Addr} {pos : Pos} {Q : Value → Shared → Prop} {args : List (Bool × Sem Value)} {kws : List (Option Str × Sem Value)} (hplain : (args.any (·.1) || kws.any (·.1.isNone)) = false)
    (h : wpAny M A (evalArgs (.ref a) true args kws) (fun z s₁ => (∃ C ox od, PySem.W.InstAt s₁.heap a ox C od ∧ ox.data = .plain) ∧ wpAny M A (call (.ref a) ([] ++ z.pos) z.kw) Q E s₁) E s) : wpAny M A (callWith pos (.ref a) [] args kws) Q E s := by
  unfold callWith
  refine wpAny_bind (wpAny_holding (wpAny_mono h (fun z s₁ h₁ => wpAny_bind (wpAny_standAt ?_)) fun _ _ y => y))
  obtain ⟨⟨C, ox, od, J, hd⟩, h₁⟩ := h₁
  have L := PySem.W.kco_keeper (M := M) J hd
  simp only [hplain]
  refine wpAny_bind (L.here ?_)
  have tail : ∀ {t : Sem Value}, wpAny M A t Q E s₁ → wpAny M A (t >>= fun r => holding [r] point >>= fun _ => pure r) Q E s₁ :=
    fun ht => wpAny_bind (wpAny_mono ht (fun r s₂ hr => wpAny_bind (wpAny_holding (wpAny_point (wpAny_pure hr)))) fun _ _ y => y)
  exact tail (wpAny_operateT h₁)
section
variable {X : Cx} {k : Nat} {g C : Addr} {fd : FuncData} {ps ks : List Str} {sp : Sp} {pos : Pos} {fe : Expr} {tf : TE} {kws : List Keyword} {tk : TA} {gg : List Value → List Value → List Value} {gV : List V → List V → List V}
def tCallOK (X : Cx) (C : Addr) (n : Nat) (sp : Sp) (gV : List V → List V → List V) (tf : TE) (tk : TA) : TE := fun σ H Q => tf σ H fun y H1 => ∃ a, y = V.ref a ∧ tk σ H1 fun zs H2 => zs.length = n ∧ StX.InsC X H2 a C ∧ sp (gV [.ref a] zs) H2 Q E0
theorem pe_callOK (hf : PE X fe tf) (c : StX.CallO X.K C g) (F : FnOk X.prog X.w X.K X.mg X.base CX0 k g fd ps sp) (hr : Room k X.A) (hb : KBn X.K fd ps 1 ks gg gV) (hkw : PK X kws tk)
    (hall : (backToKw pos (keywordEach kws X.env)).all (·.1.isSome) = true := by rfl) (hks : (backToKw pos (keywordEach kws X.env)).filterMap (·.1) = ks := by rfl)
    (hpl : ((backTo pos (starEach [] X.env)).any (·.1) || (backToKw pos (keywordEach kws X.env)).any (·.1.isNone)) = false := by rfl)
    (ht : eval (.Call fe [] kws pos) X.env = (do callWith pos (← eval fe X.env) [] (backTo pos (starEach [] X.env)) (backToKw pos (keywordEach kws X.env))) := by rfl) :
    PE X (.Call fe [] kws pos) (tCallOK X C ks.length sp gV tf tk) := by
  refine ⟨fun pins s σ H Q I h => ?_⟩
  rw [ht]
  refine wpAny_bind (thn (hf.run pins s σ H _ I h) fun u s1 hh => ?_)
  obtain ⟨y, H1, I1, ry, a, ey, q⟩ := hh
  subst ey
  obtain rfl : u = Value.ref a := ry
  refine callO_ofK hpl ?_
  refine PyProof.Rows.evalArgs_kw2_nil hall ?_
  refine thn (hkw.run pos pins s1 σ H1 _ I1 q) fun ws s2 hh => ?_
  obtain ⟨zs, H2, I2, rz, l2, hi, q2⟩ := hh
  obtain ⟨ox, od, J, hd⟩ := StX.insC_at I2 hi
  refine ⟨⟨C, ox, od, J, hd⟩, ?_⟩
  rw [hks]
  have lw : ws.length = ks.length := rz.length.symm.trans l2
  have r1 : Vals [V.ref a] [Value.ref a] := .cons rfl .nil
  refine wpAny_call (PySem.W.kco_code I2.kIn J hd c.at_ c.fn c.fi (codeAny_mono (F.run X.A X.stack s2 H2 ⟨[.ref a], ks.zip ws⟩ (gg [.ref a] ws) (gV [.ref a] zs) Q E0 hr I2.env0 (hb.to s2 [.ref a] ws I2.kIn rfl lw) (hb.rel r1 rz) q2) fun res s3 hq => ?_))
  rcases res with er | fl
  · exact False.elim hq
  · rcases fl with _ | _ | _ | u
    iterate 3 exact False.elim hq
    exact I2.after hq
end

/-! ### lists in a list, that change: read over the heap -/
theorem Ok.junk {W : Wo} {B M : Addr → Prop} {Φ : WPhi} {σ : L2.St} {H : Hp} {δ : En} {n : Nat} (k : Ok W B Φ M σ H δ n) (i : Nat) (x : Option V) : Ok W B Φ M (σ.set i x) H (δ.set i none) n where
  len := by simp [k.len]
  dat := fun j e h => by
    rcases get_set h with ⟨rfl, e1, hl⟩ | ⟨ne, h⟩
    · simp at e1
    · obtain ⟨u, e1, r1⟩ := k.dat j e h
      exact ⟨u, by rw [List.getElem?_set_ne ne]; exact e1, r1⟩
  own := fun j e h => by
    rcases get_set h with ⟨rfl, e1, hl⟩ | ⟨ne, h⟩
    · simp at e1
    · obtain ⟨q, vs, e1, r1⟩ := k.own j e h
      exact ⟨q, vs, by rw [List.getElem?_set_ne ne]; exact e1, r1⟩
  apart := fun a b ds es q h1 h2 h3 h4 => by
    rcases get_set h1 with ⟨rfl, e1, hl⟩ | ⟨ne, h1⟩
    · simp at e1
    · rcases get_set h2 with ⟨rfl, e1, hl⟩ | ⟨ne2, h2⟩
      · simp at e1
      · rw [List.getElem?_set_ne ne] at h3
        rw [List.getElem?_set_ne ne2] at h4
        exact k.apart a b ds es q h1 h2 h3 h4
  base := k.base
  dom := k.dom
  pool := k.pool
  phi := k.phi
  cl := k.cl
theorem same_upd {H H' : Hp} {q : Addr} {o : HO} (s : Same H H') (n : H q = none) : Same H (upd H' q o) := fun b u e => by
  rw [upd_ne (ne_of_none e n)]
  exact s b u e
theorem none_same {H H' : Hp} {q : Addr} (s : Same H H') (n : H' q = none) : H q = none := by
  cases e : H q with
  | none => rfl
  | some o =>
    rw [s _ _ e] at n
    cases n
abbrev rListOf (K0 : PySem.W.Frag) : List V → Hp → VK → Prop := fun xs H Q => ∃ p ys, xs = [.ref p] ∧ (SqL K0 H p ys ∨ SqT K0 H p ys) ∧ ∀ l, H l = none → Q (.ref l) (upd H l (.lst ys))
section
variable {R L : Addr} {p : Option Addr}
abbrev tSecB (K0 : PySem.W.Frag) (R L : Addr) (mi ti : Nat) (t : TS) : TS :=
  tSeq (tAsg (tLst (tCons (tProp R (spRuBase R L) [] E0 (tVar mi)) (tCons (tProp R (spChOf (ThR R L)) [] E0 (tVar mi)) tNil))) (gName ti))
  (tSeq (tDrop (tBM K0 "list" rAppend (tOp (rIxL K0) (tVar ti) (tC (.int 0))) (tCons (tC (.int 3)) tNil)))
  (tSeq (tDrop (tBM K0 "list" rAppend (tOp (rIxL K0) (tVar ti) (tC (.int 1))) (tCons (tTup (tCons (tC (.int 0)) (tCons (tC (.int 0)) tNil))) tNil))) t))
def dSecB (mi ti : Nat) (d : TDS) : TDS := fun DD δ n => ∃ bs cs, δ[mi]? = some (some (.dat (.obj (.rul bs cs)))) ∧ ti < δ.length ∧ bs.length < 1000 ∧ cs.length < 1000 ∧ d DD (δ.set ti none) n
theorem trS_secB {K0 : PySem.W.Frag} {mi ti : Nat} {t : TS} {d : TDS} (h : TrS ((Wr R L).at p) t d) : TrS ((Wr R L).at p) (tSecB K0 R L mi ti t) (dSecB mi ti d) := fun B Φ M σ H δ n D DD ok sm q => by
  obtain ⟨bs, cs, e, til, lb, lc, q⟩ := q
  obtain ⟨v, hs, rv⟩ := ok.dat mi _ e
  obtain ⟨x, av, rfl, ru, kk⟩ := rul_inv rv
  obtain ⟨dx, b, c', l, ts, las, h1, _⟩ := id ru
  refine ⟨_, hs, x, dx, _, rfl, h1, ⟨x, av, _, _, rfl, ru, fun q0 n0 => ?_⟩⟩
  have s1 := same_new (o := .lst (bs.map V.int)) n0
  have e1 := upd_same (H := H) (a := q0) (o := .lst (bs.map V.int))
  generalize upd H q0 (.lst (bs.map V.int)) = H1 at s1 e1 ⊢
  refine ⟨_, hs, x, dx, _, rfl, s1 _ _ h1, ⟨x, _, rfl, ⟨av, _, ru.same s1⟩, fun H2 q1 ts' s2 n1 hq tp => ?_⟩⟩
  have s12 := s1.trans s2
  refine ⟨(by show 2 ≤ sizeLine; decide), fun q2 n2 => ?_⟩
  have s3 := same_new (o := .lst [.ref q0, .ref q1]) n2
  have e3 := upd_same (H := H2) (a := q2) (o := .lst [.ref q0, .ref q1])
  generalize upd H2 q2 (.lst [.ref q0, .ref q1]) = H3 at s3 e3 ⊢
  have s13 := s12.trans s3
  have e0 : H3 q0 = some (.lst (bs.map V.int)) := s3 _ _ (s2 _ _ e1)
  have eq1 := s3 _ _ hq
  have n1' := none_same s1 n1
  have n2' := none_same s12 n2
  have hti : ti < σ.length := by rw [ok.len]; exact til
  have gt : (σ.set ti (some (.ref q2)))[ti]? = some (some (.ref q2)) := List.getElem?_set_self hti
  have q02 : q2 ≠ q0 := fun z => by
    rw [z, s2 _ _ e1] at n2
    cases n2
  have q12 : q2 ≠ q1 := fun z => by
    rw [z, hq] at n2
    cases n2
  have q01 : q1 ≠ q0 := fun z => by
    rw [z, e1] at n1
    cases n1
  refine ⟨_, gt, q2, _, 0, _, rfl, rfl, SqL.of e3, rfl, .inl ⟨rfl, _, SqL.of e0⟩, ⟨q0, _, _, rfl, rfl, e0, by rw [List.length_map]; exact lt_size2 (by omega), ?_⟩⟩
  have f3 := same_upd (o := .lst (bs.map V.int ++ [V.int 3])) s13 n0
  have g3 : upd H3 q0 (.lst (bs.map V.int ++ [V.int 3])) q2 = some (.lst [.ref q0, .ref q1]) := by
    rw [upd_ne q02]
    exact e3
  have g1 : upd H3 q0 (.lst (bs.map V.int ++ [V.int 3])) q1 = some (.lst (ts'.map V.ref)) := by
    rw [upd_ne q01]
    exact eq1
  generalize upd H3 q0 (.lst (bs.map V.int ++ [V.int 3])) = H4 at f3 g3 g1 ⊢
  refine ⟨_, gt, q2, _, 1, _, rfl, rfl, SqL.of g3, rfl, .inl ⟨rfl, _, SqL.of g1⟩, (by show 2 ≤ sizeLine; decide), fun q3 n3 => ?_⟩
  have f4 := f3.trans (same_new (o := .tup [.int 0, .int 0]) n3)
  have g2 := same_new (o := .tup [.int 0, .int 0]) n3 _ _ g1
  generalize upd H4 q3 (.tup [.int 0, .int 0]) = H5 at f4 g2 ⊢
  refine ⟨q1, _, _, rfl, rfl, g2, ?_, ?_⟩
  · rw [List.length_map]
    have := tp.len
    exact lt_size2 (by omega)
  · have f5 := same_upd (o := .lst (ts'.map V.ref ++ [V.ref q3])) f4 n1'
    exact h B Φ M _ _ _ n D DD ((ok.expr (FrS.of f5) (pl_same ok.plOf f5)).junk ti _) sm q
theorem dss_secB {X : Cx} {K0 : PySem.W.Frag} {z1 z2 z3 : Stmt} {rest : List Stmt} {t : TS} {d : TDS} (mi ti : Nat) (h : DSs X ((Wr R L).at p) rest t d) (hp : PSs X rest t → PSs X (z1 :: z2 :: z3 :: rest) (tSecB K0 R L mi ti t)) : DSs X ((Wr R L).at p) (z1 :: z2 :: z3 :: rest) (tSecB K0 R L mi ti t) (dSecB mi ti d) := ⟨hp h.pss, trS_secB h.tr⟩
/-- a new rule, whatever is apart from it -/
theorem rule_core {K0 : PySem.W.Frag} {M : Addr → Prop} {H1 : Hp} {a b x dx : Addr} {bs : List Int} {cs : List (Int × Int)} {ts : List Addr} {Rk : VK} {E : XK} (dom : ∀ d, M d → IsL H1 d) (ha1 : H1 a = some (.lst (bs.map V.int))) (hb1 : H1 b = some (.lst (ts.map V.ref))) (tp : Tups H1 ts cs) (l0 : 0 < bs.length) (l1 : bs.length ≤ 12) (l2 : cs.length ≤ 150)
    (asc : cs.Pairwise fun a b => a.1 < b.1) (rise : RisesC bs (tell bs cs).2) (nx : H1 x = none) (ndx : H1 dx = none) (dn : dx ≠ x) (k : ∀ H2, Same H1 H2 → Rep ((Wr R L).at p) M H2 (.ref x) (.obj (.rul bs (tell bs cs).2)) → Rk .non H2) :
    spRuI R L K0 [.ref x, .ref a, .ref b] (upd (upd H1 dx (.own x)) x (.ins R dx [])) Rk E := by
  have s0 : Same H1 (upd (upd H1 dx (.own x)) x (.ins R dx [])) := fun c o e => by
    rw [upd_ne (ne_of_none e nx), upd_ne (ne_of_none e ndx)]
    exact e
  refine ⟨x, dx, a, b, bs, ts, cs, rfl, upd_same, (by rw [upd_ne dn]; exact upd_same), dn, SqL.of (s0 _ _ ha1), SqL.of (s0 _ _ hb1), tp.same s0, ne_of_none ha1 nx, ne_of_none hb1 nx, l0, l1, l2, asc, rise, fun H2 ru f => ?_⟩
  have s2 : Same H1 H2 := fun c o e => f _ _ (s0 _ _ e) (ne_of_none e nx)
  have hdx : upd (upd H1 dx (.own x)) x (.ins R dx []) dx = some (.own x) := by rw [upd_ne dn]; exact upd_same
  have old : ∀ d, M d → RuAt R L d H2 x bs (tell bs cs).2 := fun d hd => by
    obtain ⟨us, e⟩ := dom d hd
    exact ru d _ (s0 _ _ e) (ne_of_none e nx)
  exact k H2 s2 (.obj ⟨⟨dx, ruS_of (ru dx _ hdx dn) old⟩, ruOk_of l0 l1 asc rise⟩)
abbrev tSecA (K0 : PySem.W.Frag) (R L : Addr) (bi si hi mi wi : Nat) (t : TS) : TS :=
  tSeq (tAsg (tLst (tCons (tCB (rListOf K0) (tCons (tVar bi) tNil)) (tCons (tCB (rListOf K0) (tCons (tVar si) tNil)) tNil))) (gName hi))
  (tSeq (tPar mi wi (tCons (tMake R (spRuI R L K0) [] E0 (tCons (tOp (rIxL K0) (tVar hi) (tC (.int 0))) (tCons (tOp (rIxL K0) (tVar hi) (tC (.int 1))) tNil))) (tCons (tMakeK R 0 2 (spRuI R L K0) (gKw V.non) E0 tNil (tCons (tCB (rListOf K0) (tCons (tVar si) tNil)) (tCons (tCB (rListOf K0) (tCons (tVar bi) tNil)) tNil))) tNil)))
  (tSeq (tIfS (tTest (tOp rNe (tCB (rRep2 K0) (tCons (tVar hi) tNil)) (tCB (rRep2 K0) (tCons (tLst (tCons (tVar bi) (tCons (tVar si) tNil))) tNil)))) (tRet (tC (.bl false))) tNext)
  (tSeq (tDrop (tBM K0 "list" rAppend (tOp (rIxL K0) (tVar hi) (tC (.int 0))) (tCons (tC (.int 1)) tNil)))
  (tSeq (tDrop (tBM0 K0 "list" rClear (tOp (rIxL K0) (tVar hi) (tC (.int 1))))) t))))
def dSecA (bi si hi mi wi : Nat) (d : TDS) : TDS := fun DD δ n => ∃ bs cs, δ[bi]? = some (some (.dat (dInt bs))) ∧ δ[si]? = some (some (.dat (dPrs cs))) ∧ (hi < δ.length ∧ mi < δ.length ∧ wi < δ.length ∧ hi ≠ mi ∧ hi ≠ wi ∧ hi ≠ bi ∧ hi ≠ si ∧ mi ≠ bi ∧ mi ≠ si ∧ wi ≠ bi ∧ wi ≠ si) ∧
  0 < bs.length ∧ bs.length ≤ 12 ∧ cs.length ≤ 60 ∧ (cs.Pairwise fun a b => a.1 < b.1) ∧ RisesC bs (tell bs cs).2 ∧ (∃ n k, Rp (PyData.list [(dInt bs).py, (dPrs cs).py]) n k ∧ k ≤ 60 ∧ n ≤ 300000) ∧
  d DD (((δ.set hi none).set mi (some (.dat (.obj (.rul bs (tell bs cs).2))))).set wi (some (.dat (.obj (.rul bs (tell bs cs).2))))) n
theorem set_get_ne {α : Type} {l : List α} {i j : Nat} {x y : α} (h : l[j]? = some y) (ne : i ≠ j) : (l.set i x)[j]? = some y := by
  rw [List.getElem?_set_ne ne]
  exact h
theorem pu_ints (bs : List Int) : (dInt bs).pu = true := (puAll_iff _).mpr fun d hd => by
  obtain ⟨i, _, rfl⟩ := List.mem_map.mp hd
  rfl
theorem pu_prs (cs : List (Int × Int)) : (dPrs cs).pu = true := (puAll_iff _).mpr fun d hd => by
  obtain ⟨i, _, rfl⟩ := List.mem_map.mp hd
  rfl
theorem trS_secA {K0 : PySem.W.Frag} {bi si hi mi wi : Nat} {t : TS} {d : TDS} (h : TrS ((Wr R L).at p) t d) : TrS ((Wr R L).at p) (tSecA K0 R L bi si hi mi wi t) (dSecA bi si hi mi wi d) := fun B Φ M σ H δ n D DD ok sm q => by
  obtain ⟨bs, cs, eb, es, ⟨hiL, miL, wiL, ne1, ne2, ne3, ne4, ne5, ne6, ne7, ne8⟩, l0, l1, l2, asc, rise, ⟨rn, rk, rp0, rp1, rp2⟩, q⟩ := q
  obtain ⟨vb, hsb, rb⟩ := ok.dat bi _ eb
  obtain ⟨vs, hss, rs⟩ := ok.dat si _ es
  obtain ⟨qb, ub, rfl, hqb, nb, ra⟩ := rb.lst_inv
  obtain rfl := ra.ints
  obtain ⟨qs, us, rfl, hqs, ns, ras⟩ := rs.lst_inv
  obtain ⟨ts, rfl, tp, nt⟩ := prs_inv ras
  refine ⟨_, hsb, qb, _, rfl, .inl (SqL.of hqb), fun q0 n0 => ?_⟩
  have s1 := same_new (o := .lst (bs.map V.int)) n0
  have e1 := upd_same (H := H) (a := q0) (o := .lst (bs.map V.int))
  generalize upd H q0 (.lst (bs.map V.int)) = H1 at s1 e1 ⊢
  refine ⟨_, hss, qs, _, rfl, .inl (SqL.of (s1 _ _ hqs)), fun q1 n1 => ?_⟩
  have s2 := same_new (o := .lst (ts.map V.ref)) n1
  have e2 := upd_same (H := H1) (a := q1) (o := .lst (ts.map V.ref))
  generalize upd H1 q1 (.lst (ts.map V.ref)) = H2 at s2 e2 ⊢
  refine ⟨(by show 2 ≤ sizeLine; decide), fun q2 n2 => ?_⟩
  have s3 := same_new (o := .lst [.ref q0, .ref q1]) n2
  have e3 := upd_same (H := H2) (a := q2) (o := .lst [.ref q0, .ref q1])
  generalize upd H2 q2 (.lst [.ref q0, .ref q1]) = H3 at s3 e3 ⊢
  have s13 := (s1.trans s2).trans s3
  have f0 := s3 _ _ (s2 _ _ e1)
  have f1 := s3 _ _ e2
  have n1' := none_same s1 n1
  have n2' := none_same (s1.trans s2) n2
  have q01 : q1 ≠ q0 := fun z => by
    rw [z, e1] at n1
    cases n1
  have q02 : q2 ≠ q0 := fun z => by
    rw [z, s2 _ _ e1] at n2
    cases n2
  have q12 : q2 ≠ q1 := fun z => by
    rw [z, e2] at n2
    cases n2
  have gt : (σ.set hi (some (.ref q2)))[hi]? = some (some (.ref q2)) := List.getElem?_set_self (by rw [ok.len]; exact hiL)
  have gb : (σ.set hi (some (.ref q2)))[bi]? = some (some (.ref qb)) := set_get_ne hsb ne3
  have gs : (σ.set hi (some (.ref q2)))[si]? = some (some (.ref qs)) := set_get_ne hss ne4
  -- the rules, apart from the lists too
  have dom3 : ∀ d, (M d ∨ d = q0 ∨ d = q1) → IsL H3 d := fun d hd => by
    rcases hd with hd | rfl | rfl
    · obtain ⟨us, e⟩ := ok.dom d hd
      exact ⟨us, s13 _ _ e⟩
    · exact ⟨_, f0⟩
    · exact ⟨_, f1⟩
  have tp3 := tp.same s13
  refine ⟨_, gt, q2, _, 0, _, rfl, rfl, SqL.of e3, rfl, _, gt, q2, _, 1, _, rfl, rfl, SqL.of e3, rfl, fun x1 dx1 nx1 nd1 dn1 => ?_⟩
  refine rule_core (M := fun d => M d ∨ d = q0 ∨ d = q1) (p := p) dom3 f0 f1 tp3 l0 l1 (by omega) asc rise nx1 nd1 dn1 fun H4 s4 r1 => ⟨rfl, ?_⟩
  have s14 := s13.trans s4
  refine ⟨_, gs, qs, _, rfl, .inl (SqL.of (s14 _ _ hqs)), fun q3 n3 => ?_⟩
  have s5 := same_new (o := .lst (ts.map V.ref)) n3
  have e5 := upd_same (H := H4) (a := q3) (o := .lst (ts.map V.ref))
  generalize upd H4 q3 (.lst (ts.map V.ref)) = H5 at s5 e5 ⊢
  refine ⟨_, gb, qb, _, rfl, .inl (SqL.of (s5 _ _ (s14 _ _ hqb))), fun q4 n4 => ?_⟩
  have s6 := same_new (o := .lst (bs.map V.int)) n4
  have e6 := upd_same (H := H5) (a := q4) (o := .lst (bs.map V.int))
  generalize upd H5 q4 (.lst (bs.map V.int)) = H6 at s6 e6 ⊢
  have s46 := (s4.trans s5).trans s6
  have s16 := s13.trans s46
  have dom6 : ∀ d, (M d ∨ d = q0 ∨ d = q1) → IsL H6 d := fun d hd => by
    obtain ⟨us, e⟩ := dom3 d hd
    exact ⟨us, s46 _ _ e⟩
  refine ⟨rfl, rfl, fun x2 dx2 nx2 nd2 dn2 => ?_⟩
  refine rule_core (M := fun d => M d ∨ d = q0 ∨ d = q1) (p := p) dom6 e6 (s6 _ _ e5) (tp.same s16) l0 l1 (by omega) asc rise nx2 nd2 dn2 fun H7 s7 r2 => ⟨rfl, _, _, rfl, ?_⟩
  have s37 := s46.trans s7
  have s17 := s13.trans s37
  have r1' := r1.mono (FrS.of (M := fun d => M d ∨ d = q0 ∨ d = q1) ((s5.trans s6).trans s7))
  have gt2 : ((((σ.set hi (some (.ref q2))).set mi (some (.ref x1))).set wi (some (.ref x2))))[hi]? = some (some (.ref q2)) := set_get_ne (set_get_ne gt (Ne.symm ne1)) (Ne.symm ne2)
  have gb2 : ((((σ.set hi (some (.ref q2))).set mi (some (.ref x1))).set wi (some (.ref x2))))[bi]? = some (some (.ref qb)) := set_get_ne (set_get_ne gb ne5) ne7
  have gs2 : ((((σ.set hi (some (.ref q2))).set mi (some (.ref x1))).set wi (some (.ref x2))))[si]? = some (some (.ref qs)) := set_get_ne (set_get_ne gs ne6) ne8
  have h2 := s37 _ _ e3
  have h0 := s37 _ _ f0
  have h1 := s37 _ _ f1
  have ra7 : RepA ((Wr R L).at p) (fun _ => False) H7 (bs.map V.int) (bs.map DV.int) := repA_ints bs
  have rep0 : Rep ((Wr R L).at p) (fun _ => False) H7 (.ref q0) (dInt bs) := .lst h0 (fun z => z) ra7.1 ra7.2
  have tr7 := tups_rep (W := (Wr R L).at p) (M := fun _ => False) (tp.same s17) fun t _ z => z
  have rep1 : Rep ((Wr R L).at p) (fun _ => False) H7 (.ref q1) (dPrs cs) := .lst h1 (fun z => z) tr7.1 tr7.2
  refine ⟨_, gt2, ⟨q2, _, rn, rk, rfl, .lst (SqL.of h2) (.cons (rep0.dp (pu_ints bs)) (.cons (rep1.dp (pu_prs cs)) .nil)), rp0, rp1, rp2, ?_⟩⟩
  refine ⟨_, gb2, _, gs2, (by show 2 ≤ sizeLine; decide), fun q5 n5 => ?_⟩
  have s8 := same_new (o := .lst [.ref qb, .ref qs]) n5
  have e8 := upd_same (H := H7) (a := q5) (o := .lst [.ref qb, .ref qs])
  generalize upd H7 q5 (.lst [.ref qb, .ref qs]) = H8 at s8 e8 ⊢
  have s18 := s17.trans s8
  have rb8 := rb.mono (FrS.of (M := M) s18)
  have rs8 := rs.mono (FrS.of (M := M) s18)
  refine ⟨q5, _, rn, rk, rfl, .lst (SqL.of e8) (.cons (rb8.dp (pu_ints bs)) (.cons (rs8.dp (pu_prs cs)) .nil)), rp0, rp1, rp2, ?_⟩
  refine ⟨rfl, _, rfl, ?_⟩
  rw [decide_eq_true rfl]
  refine ⟨_, gt2, q2, _, 0, _, rfl, rfl, SqL.of (s8 _ _ h2), rfl, .inl ⟨rfl, _, SqL.of (s8 _ _ h0)⟩, ⟨q0, _, _, rfl, rfl, s8 _ _ h0, by rw [List.length_map]; exact lt_size2 (by omega), ?_⟩⟩
  have f9 := same_upd (o := .lst (bs.map V.int ++ [V.int 1])) s18 n0
  have k2 : upd H8 q0 (.lst (bs.map V.int ++ [V.int 1])) q2 = some (.lst [.ref q0, .ref q1]) := by
    rw [upd_ne q02]
    exact s8 _ _ h2
  have k1 : upd H8 q0 (.lst (bs.map V.int ++ [V.int 1])) q1 = some (.lst (ts.map V.ref)) := by
    rw [upd_ne q01]
    exact s8 _ _ h1
  have fr9 : FrS (fun d => M d ∨ d = q0 ∨ d = q1) H7 (upd H8 q0 (.lst (bs.map V.int ++ [V.int 1]))) := (FrS.of s8).upd (.inr (.inr (.inl rfl)))
  generalize upd H8 q0 (.lst (bs.map V.int ++ [V.int 1])) = H9 at f9 k2 k1 fr9 ⊢
  refine ⟨_, gt2, q2, _, 1, _, rfl, rfl, SqL.of k2, rfl, .inl ⟨rfl, _, SqL.of k1⟩, ⟨q1, _, rfl, rfl, k1, ?_⟩⟩
  have f10 := same_upd (o := .lst []) f9 n1'
  have fr10 := fr9.upd (q := q1) (o := .lst []) (.inr (.inr (.inr rfl)))
  have ra1 := (r1'.mono fr10).sub (M' := M) fun a z => .inl (.inl z)
  have ra2 := (r2.mono fr10).sub (M' := M) fun a z => .inl (.inl z)
  exact h B Φ M _ _ _ n D DD ((((ok.expr (FrS.of f10) (pl_same ok.plOf f10)).junk hi (some (.ref q2))).set ra1 mi).set ra2 wi) sm q
theorem dss_secA {X : Cx} {K0 : PySem.W.Frag} {z1 z2 z3 z4 z5 : Stmt} {rest : List Stmt} {t : TS} {d : TDS} (bi si hi mi wi : Nat) (h : DSs X ((Wr R L).at p) rest t d) (hp : PSs X rest t → PSs X (z1 :: z2 :: z3 :: z4 :: z5 :: rest) (tSecA K0 R L bi si hi mi wi t)) : DSs X ((Wr R L).at p) (z1 :: z2 :: z3 :: z4 :: z5 :: rest) (tSecA K0 R L bi si hi mi wi t) (dSecA bi si hi mi wi d) := ⟨hp h.pss, trS_secA h.tr⟩
end

/-! ### the law's own loop -/
def Scr (K : PySem.W.Frag) (H : Hp) (a : Addr) (xs : List V) : Prop := (∃ o, H a = some (.frz o (.lst xs))) ∨ ∀ J : Hp, SqL K J a xs
theorem Scr.seq {K : PySem.W.Frag} {H : Hp} {a : Addr} {xs : List V} (h : Scr K H a xs) : SqL K H a xs := by
  rcases h with ⟨o, h⟩ | h
  · exact .inl (.inr ⟨o, h⟩)
  · exact h H
theorem Scr.of {K : PySem.W.Frag} {H : Hp} {a : Addr} {xs : List V} (o : Only H) (h : SqL K H a xs) : Scr K H a xs := by
  rcases h with (h | ⟨u, h⟩) | h
  · rcases o a with z | ⟨u, ys, z⟩
    · rw [z] at h
      cases h
    · rw [z] at h
      cases h
  · exact .inl ⟨u, h⟩
  · exact .inr fun J => .inr h
theorem Scr.same {K : PySem.W.Frag} {H H' : Hp} {a : Addr} {xs : List V} (h : Scr K H a xs) (f : Same H H') : Scr K H' a xs := by
  rcases h with ⟨o, h⟩ | h
  · exact .inl ⟨o, f _ _ h⟩
  · exact .inr h
theorem Scr.fr {K : PySem.W.Frag} {H H' : Hp} {a p : Addr} {n : Nat} {xs : List V} (h : Scr K H a xs) (g : Well H p n) (f : Fr p H H') : Scr K H' a xs := by
  rcases h with ⟨o, h⟩ | h
  · refine .inl ⟨o, f _ _ h fun z => ?_⟩
    obtain ⟨x, y, u, e, _⟩ := g
    rw [z, e] at h
    cases h
  · exact .inr h
def spFits : Sp := fun vs H Q _ => ∃ (p : Addr) (n : Nat), vs = [.ref p] ∧ Well H p n ∧ n ≤ 10 ^ 6 ∧ ∀ H', Fr p H H' → Well H' p (n + 1000) → Q (.bl true) H'
def spLaw (K : PySem.W.Frag) : Sp := fun vs H Q _ => ∃ (a : Addr) (ns : List Int), vs = [.ref a] ∧ Scr K H a (ns.map V.int) ∧ ns.length ≤ 63 ∧ ∀ H', Q (.bl true) H'
/-- the turns of the inner loop -/
def turns : Nat := match defBody sLaw with
  | .For _ _ (_ :: .For _ (.Call _ (.Constant (.int n) _ _ :: _) _ _) _ _ _ :: _) _ _ :: _ => n.toNat
  | _ => 0
section
variable {P : Program} {w : World} {K : PySem.W.Frag} {mg : Str → Option Value} {base : Heap}
theorem scLaw : FnScope ["script", "spot", "pool", "turn"] ["script"] (defScope sLaw) := ⟨rfl, rfl, rfl, by decide +kernel, rfl, by decide +kernel, by decide +kernel⟩
theorem ok_law {f fW fF : Addr} {fd fdW fdF : FuncData} {k : Nat} (hk : 1 ≤ k) (F : Fun K "law" "law" sLaw f fd) (T : Blt mg) (W : At P w K mg base 1 "_law_pool" ["script", "spot"] (spPool K) fW fdW)
    (G : FnG P w K mg base k fF fdF ["pool"] spFits) (gF : mg "_law_right" = some (.ref fF)) (kF : PySem.W.keepIn K (.ref fF) = true) (bF : Binds K fdF ["pool"] []) : FnG P w K mg base (k + 1) f fd ["script"] (spLaw K) := by
  refine okG F scLaw (fun vs H Q E h => ?_) (fun cdv A outer s H vs Q E hgd hr h => ?_)
  · obtain ⟨a, ns, rfl, _⟩ := h
    rfl
  · obtain ⟨a, ns, rfl, hS, hl, q⟩ := h
    have hr1 : Room 1 _ := hr.mono hk
    refine ⟨_, pss_cons (ps_for PassesOwn.never rfl (pi_range1 (by rfl) T.range (pa_cons (pe_callB (call_max2 rfl) (by rfl) T.max (by decide +kernel) (pa_cons pe_int (pa_cons (pe_callB (call_min2 rfl) (by rfl) T.min (by decide +kernel)
          (pa_cons pe_int (pa_cons (pe_callB call_len_seq (by rfl) T.len PySem.boot_len (pa_cons (pv 0) pa_nil)) pa_nil))) pa_nil))) pa_nil)) (pg_name (i := 1) scLaw.nd rfl (.inl rfl))
        (pss_cons (ps_set (i := 2) scLaw.nd rfl (.inl rfl) (pe_call W.ok hr1 (by rfl) W.at_ W.kp W.bi .nil pass0 (pa_cons (pv 0) (pa_cons (pv 1) pa_nil))))
        (pss_one (ps_for PassesOwn.never rfl (pi_range1 (by rfl) T.range (pa_cons pe_int pa_nil)) (pg_name (i := 3) scLaw.nd rfl (.inl rfl))
          (pss_one (ps_if (pt_not (pt_val (pe_callG G hgd hr (by rfl) gF kF bF (pa_cons (pv 2) pa_nil)))) (pss_one (ps_ret pe_bl)) pss_nil))))))
      (pss_one (ps_ret pe_bl)), ?_⟩
    refine ⟨_, rfl, a, _, rfl, .inl hS.seq, 10, _, rfl, 1, _, rfl, ?_⟩
    generalize hm : (if (if (((ns.map V.int).length : Nat) : Int) < 10 then (((ns.map V.int).length : Nat) : Int) else 10) > 1 then (if (((ns.map V.int).length : Nat) : Int) < 10 then (((ns.map V.int).length : Nat) : Int) else 10) else 1) = m
    have m1 : 1 ≤ m ∧ m ≤ 10 := by
      rw [← hm]
      split <;> split <;> omega
    refine ⟨m, rfl, by omega, by omega, for_range (lo := 0) (n := m.toNat) (fun i σ J => ∃ y1 y2 y3 : Option V, σ = [some (.ref a), y1, y2, y3] ∧ Scr K J a (ns.map V.int)) ⟨none, none, none, rfl, hS⟩ ?_ ?_⟩
    · rintro i σ J hi ⟨y1, y2, y3, rfl, hJ⟩
      refine ⟨_, rfl, _, rfl, ⟨a, ns, _, rfl, hJ.seq, hl, by omega, by omega, fun p J1 np s1 w1 => ?_⟩⟩
      refine ⟨turns, rfl, by decide +kernel, by decide +kernel, for_range (lo := 0) (n := turns) (fun j σ J2 => ∃ y3 : Option V, σ = [some (.ref a), some (.int (0 + i)), some (.ref p), y3] ∧ Scr K J2 a (ns.map V.int) ∧ Well J2 p (j * 1000)) ⟨_, rfl, hJ.same s1, w1.mono (by omega)⟩ ?_ ?_⟩
      · rintro j σ J2 hj ⟨y3, rfl, hJ2, w2⟩
        have tb : turns ≤ 100 := by decide +kernel
        refine ⟨_, rfl, ⟨p, _, rfl, w2, by omega, fun J3 f3 w3 => ⟨_, rfl, ?_⟩⟩⟩
        exact ⟨_, rfl, hJ2.fr w2 f3, w3.mono (by omega)⟩
      · rintro σ J2 ⟨y3, rfl, hJ2, w2⟩
        exact ⟨_, _, _, rfl, hJ2⟩
    · rintro σ J ⟨y1, y2, y3, rfl, hJ⟩
      exact q J
end

/-! ### the law of rules by their changes -/
def gMv {α : Type} (z : α) : List α → List α → List α := fun us ws => [us.getD 0 z, ws.getD 0 z]
theorem kb_call {K : PySem.W.Frag} {f : Addr} {fd : FuncData} (F : Fun K "__call__" "Rule.__call__" sRuCall f fd) : KBn K fd ["self", "moment"] 1 ["moment"] (gMv Value.none) (gMv V.non) := by
  obtain ⟨oc, od, kV, doc, pm, an, cdv, ct, osl, rfl, lk, hcd⟩ := F.ex
  refine ⟨fun s us ws _ l1 l2 => ?_, fun {vs us zs ws} r1 r2 => ?_⟩
  · match us, l1, ws, l2 with
    | [u], _, [c], _ => exact .of_eq rfl
  · have get : ∀ {vs : List V} {us : List Value} (i : Nat), Vals vs us → RelV (vs.getD i V.non) (us.getD i Value.none) := by
      intro vs us i r
      induction r generalizing i with
      | nil => cases i <;> exact (rfl : RelV V.non Value.none)
      | cons a _ ih =>
        cases i with
        | zero => exact a
        | succ i => exact ih i
    exact .cons (get 0 r1) (.cons (get 0 r2) .nil)
structure AtG (P : Program) (w : World) (K : PySem.W.Frag) (mg : Str → Option Value) (base : Heap) (k : Nat) (x : Str) (ps : List Str) (sp : Sp) (f : Addr) (fd : FuncData) : Prop where
  ok : FnG P w K mg base k f fd ps sp
  at_ : mg x = some (.ref f)
  kp : PySem.W.keepIn K (.ref f) = true
  bi : Binds K fd ps []
theorem py_ints (bs : List Int) : (dInt bs).py = dInts bs := by
  show PyData.list (DV.pyAll (bs.map DV.int)) = _
  rw [pyAll_map, List.map_map]
  rfl
theorem py_prs (cs : List (Int × Int)) : (dPrs cs).py = dMarks cs := by
  show PyData.list (DV.pyAll (cs.map dPr)) = _
  rw [pyAll_map, List.map_map]
  rfl
theorem ne_self (v : V) : (!decide (v = v)) = false := by rw [decide_eq_true rfl]; rfl
theorem three1000 : 3 ≤ 1000 := by decide
section
variable {R L : Addr} {p : Option Addr} {X : Cx} {pos : Pos} {k : Nat} {fd : FuncData} {ps ks : List Str} {ta tk : TE}
structure DK (X : Cx) (W : Wo) (kws : List Keyword) (t : TA) (d : TDA) : Prop where
  pk : PK X kws t
  tr : TrA W t d
theorem dk_nil {W : Wo} : DK X W [] tNil dNil := ⟨pk_nil, fun B Φ M σ H δ n Q K ok c h => c _ _ _ _ .refl ok.plOf .nil h⟩
theorem dk_cons {W : Wo} {e : Expr} {t : TE} {d : TD} {kws : List Keyword} {tA : TA} {dA : TDA} {nm : Option Str} {kpos : Pos} (ha : DE X W e t d) (hr : DK X W kws tA dA) : DK X W (⟨nm, e, kpos⟩ :: kws) (tCons t tA) (dCons d dA) := ⟨pk_cons ha.pe hr.pk, fun B Φ M σ H δ n Q K ok c h => ha.tr B Φ M σ H δ n _ _ ok (fun r m v H1 f p ra h => hr.tr B Φ M σ H1 δ m _ _ (ok.expr f p) (fun rs k vs H2 f2 p2 rb h =>
    c _ _ _ _ (f.trans f2) p2 (.cons (ra.mono (ok.frM f2)) rb) h) h) h⟩
def dMethK (f : FD) (a : TD) (b : TDA) : TD := fun δ n K => a δ n fun x m => x.isR = true ∧ b δ m fun xs k => xs.length = 1 ∧ f (x :: xs) k K
theorem trE_callOK {sp : Sp} {f : FD} {ta : TE} {da : TD} {tA : TA} {dA : TDA} (rd : RdFn ((Wr R L).at p) sp f) (ha : TrE ((Wr R L).at p) ta da) (hA : TrA ((Wr R L).at p) tA dA) : TrE ((Wr R L).at p) (tCallOK X R 1 sp (gMv V.non) ta tA) (dMethK f da dA) :=
  fun B Φ M σ H δ n Q K ok c q => ha B Φ M σ H δ n _ _ ok (fun x m v H1 f1 p1 ra q => by
    obtain ⟨hx, q⟩ := q
    unfold DV.isR at hx
    split at hx
    · obtain ⟨x, av, rfl, ru, kk⟩ := rul_inv ra
      refine ⟨x, rfl, hA B Φ M σ H1 δ m _ _ (ok.expr f1 p1) (fun ys j us H2 f2 p2 rb q => ?_) q⟩
      obtain ⟨yl, q⟩ := q
      have ok2 := (ok.expr f1 p1).expr f2 p2
      have ul : us.length = 1 := by rw [rb.1]; exact yl
      obtain ⟨x2, av2, e2, ru2, _⟩ := rul_inv (ra.mono (ok.frM f2))
      obtain rfl : x = x2 := by injection e2
      obtain ⟨dx, b, c', l, ts, las, h2, _⟩ := id ru2
      match us, ul with
      | [u], _ => exact ⟨rfl, .inr ⟨dx, _, h2⟩, rd M H2 _ _ j Q E0 K ok2.dom ok2.poolM (.cons (ra.mono (ok.frM f2)) rb) (fun r j v H' f3 p3 r3 k => c _ _ _ _ ((f1.trans f2).trans f3) p3 r3 k) q⟩
    · cases hx) q
/-- made(k = t) -/
theorem de_callOK {fe : Expr} {g : Addr} {sp : Sp} {f : FD} {da : TD} {tA : TA} {dA : TDA} {kws : List Keyword} {nm : Str} {gg : List Value → List Value → List Value} (hf : DE X ((Wr R L).at p) fe ta da) (c : StX.CallO X.K R g) (F : FnOk X.prog X.w X.K X.mg X.base CX0 k g fd ps sp) (rd : RdFn ((Wr R L).at p) sp f) (hr : Room k X.A) (hb : KBn X.K fd ps 1 [nm] gg (gMv V.non)) (hkw : DK X ((Wr R L).at p) kws tA dA)
    (hall : (backToKw pos (keywordEach kws X.env)).all (·.1.isSome) = true := by rfl) (hks : (backToKw pos (keywordEach kws X.env)).filterMap (·.1) = [nm] := by rfl)
    (hpl : ((backTo pos (starEach [] X.env)).any (·.1) || (backToKw pos (keywordEach kws X.env)).any (·.1.isNone)) = false := by rfl)
    (ht : eval (.Call fe [] kws pos) X.env = (do callWith pos (← eval fe X.env) [] (backTo pos (starEach [] X.env)) (backToKw pos (keywordEach kws X.env))) := by rfl) : DE X ((Wr R L).at p) (.Call fe [] kws pos) (tCallOK X R 1 sp (gMv V.non) ta tA) (dMethK f da dA) :=
  ⟨pe_callOK hf.pe c F hr hb hkw.pk hall hks hpl ht, trE_callOK rd hf.tr hkw.tr⟩
end
theorem getD_mem {α : Type} {l : List α} {i : Nat} {z : α} (h : i < l.length) : l.getD i z ∈ l := by
  rw [List.getD_eq_getElem?_getD, List.getElem?_eq_getElem h]
  exact List.getElem_mem h
def fRight : FD := fun ds n K => ds = [.pool] ∧ n ≤ 10 ^ 6 ∧ ∀ m, m ≤ n + 1000 → K (.bl true) m
theorem fits_of {P : Program} {w : World} {K : PySem.W.Frag} {mg : Str → Option Value} {base : Heap} {f : Addr} {fd : FuncData} {k : Nat} {R L : Addr} (F : FnG P w K mg base k f fd ["pool"] (spD (Wr R L) fRight)) : FnG P w K mg base k f fd ["pool"] spFits := by
  suffices imp : ∀ vs H Q E, spFits vs H Q E → spD (Wr R L) fRight vs H Q E by
    exact ⟨fun vs H Q E h => F.size vs H Q E (imp _ _ _ _ h), fun B stk s H ar us vs Q E g r e b v h => F.go B stk s H ar us vs Q E g r e b v (imp _ _ _ _ h)⟩
  intro vs H Q E h
  obtain ⟨q, n, rfl, hW, hn, h⟩ := h
  have isl : IsL H q := by
    obtain ⟨a, b, c, e, _⟩ := id hW
    exact ⟨_, e⟩
  refine ⟨some q, fun a => a = q, [.pool], n, fun r m => r = .bl true ∧ m ≤ n + 1000, fun a e => by rw [e]; exact isl, fun a e => by cases e; exact ⟨rfl, hW⟩, .cons (.pool rfl) .nil, fun r m v H' fr pl rp km => ?_, rfl, hn, fun m hm => ⟨rfl, hm⟩⟩
  obtain ⟨rfl, hm⟩ := km
  rw [rp.bl_inv]
  exact h H' (fun b o e ne => fr b o e fun z => ne (by cases z; rfl)) ((pl q rfl).mono hm)
section
variable {P : Program} {w : World} {K : PySem.W.Frag} {mg : Str → Option Value} {base : Heap}
theorem scRight : FnScope ["pool", "plan", "base_here", "shifts", "size", "handed", "made", "twin", "owed", "turn", "told", "spots", "spot", "at", "here"] ["pool"] (defScope sRight) := ⟨rfl, rfl, rfl, by decide +kernel, rfl, by decide +kernel, by decide +kernel⟩
theorem ok_right {f fT fO fP fN fH fI fC R L p2 g2 p3 g3 : Addr} {fd dT dO dP dN dH dI dC d2 d3 : FuncData} (F : Fun K "_law_right" "_law_right" sRight f fd) (T : Blt mg) (ZR : RuC K mg R) (Dr : At P w K mg base 1 "_law_draw" ["pool", "span"] spTake fT dT) (Of : At P w K mg base 1 "_law_offset" ["plan", "spot"] (spD (Wr R L) fOffL) fO dO)
    (Pn : At P w K mg base 4 "_law_plan" ["pool"] (spD (Wr R L) fPlan) fP dP) (Nd : At P w K mg base 2 "_law_needed" ["plan"] (spD (Wr R L) fNeed) fN dN) (Sh : AtG P w K mg base 3 "_law_shape" ["made"] (spShape R L) fH dH)
    (V2 : Pp P w K mg base R "base" (spRuBase R L) p2 g2 d2) (V3 : Pp P w K mg base R "changes" (spChOf (ThR R L)) p3 g3 d3)
    (MKR : Mk K R fI) (GRI : FnOk P w K mg base CX0 5 fI dI ["self", "base", "changes"] (spRuI R L K)) (bRI : Binds K dI ["self", "base", "changes"] []) (kRI : KBn K dI ["self", "base", "changes"] 1 ["changes", "base"] (gKw Value.none) (gKw V.non))
    (cO : StX.CallO K R fC) (GRC : FnOk P w K mg base CX0 5 fC dC ["self", "moment"] (spRuAns R L)) (bRC : Binds K dC ["self", "moment"] []) (kRC : KBn K dC ["self", "moment"] 1 ["moment"] (gMv Value.none) (gMv V.non)) : FnG P w K mg base 7 f fd ["pool"] (spD (Wr R L) fRight) := by
  refine okGD F scRight (Wr R L) fRight (fun ds n K h => ?_) (fun p cdv A outer s H E hgd hr => ?_)
  · obtain ⟨rfl, _⟩ := h
    rfl
  · have hu := hr.units
    have hr1 : Room 1 _ := hr.mono (by decide)
    have hr2 : Room 2 _ := hr.mono (by decide)
    have hr3 : Room 3 _ := hr.mono (by decide)
    have hr4 : Room 4 _ := hr.mono (by decide)
    have hr5 : Room 5 _ := hr.mono (by decide)
    have hr6 : Room 6 _ := hr.mono (by decide)
    have h8 : DSs (cxOf CX0 P w K mg base ["pool", "plan", "base_here", "shifts", "size", "handed", "made", "twin", "owed", "turn", "told", "spots", "spot", "at", "here"] "_law_right" (defScope sRight) f cdv A outer s H E).nox ((Wr R L).at p) ((defBody sRight).drop 8) _ _ := (dss_cons (ds_set (i := 8) scRight.nd rfl (.inl rfl) (de_b (call_rep2 hgd hu) (by rfl) T.repr (by decide +kernel) rd_repr (da_cons (de_f (df_lst (da_cons (dv 4) (da_cons (dv 2) (da_cons (de_call Nd.ok (rd_spD rfl) hr2 Nd.at_ Nd.kp Nd.bi (da_cons (dv 1) da_nil)) da_nil))))) da_nil)))
      (dss_cons (ds_for [9] PassesOwn.never rfl (di_range1 (by rfl) T.range (da_cons de_int da_nil)) (dg_name (i := 9) scRight.nd rfl (.inl rfl))
        (dss_secB (K0 := K) 6 10
          (dss_one (ds_if (DW.dt (dw_or (dt_cmp op_ne rd_Ne (de_callG Sh.ok rd_shape hgd hr3 Sh.at_ Sh.kp Sh.bi (da_cons (dv 6) da_nil)) (dv 8)) (dw_or1 (dt_cmp op_ne rd_Ne (de_callG Sh.ok rd_shape hgd hr3 Sh.at_ Sh.kp Sh.bi (da_cons (dv 7) da_nil)) (dv 8)))))
            (dss_one (ds_ret de_bl))
            dss_nil))
          (fun hx => pss_cons (ps_set (i := 10) scRight.nd rfl (.inl rfl) (pe_lst (pa_cons (pe_prop (pv 6) ZR.cl V2.of V2.ok hr2 V2.bi .nil pass0 rfl) (pa_cons (pe_prop (pv 6) ZR.cl V3.of V3.ok hr2 V3.bi .nil pass0 rfl) pa_nil))))
            (pss_cons (ps_expr (pe_bm PySem.F.plainAttrs_list PySem.F.slot_list_append PySem.F.type_list_append mt_append (pe_ix ix_list (pv 10) pe_int (fun _ _ => rfl)) (pa_cons pe_int pa_nil)))
            (pss_cons (ps_expr (pe_bm PySem.F.plainAttrs_list PySem.F.slot_list_append PySem.F.type_list_append mt_append (pe_ix ix_list (pv 10) pe_int (fun _ _ => rfl)) (pa_cons (pe_tup (pa_cons pe_int (pa_cons pe_int pa_nil))) pa_nil)))
            hx)))))
      (dss_cons (ds_setLc (i := 11) (g := (gTup K 2 (gCons (gName 13) (gCons (gName 14) gNil)))) (own := [("at", 13), ("here", 14)]) rfl scRight.nd rfl rfl (sw_true rfl rfl rfl (by decide +kernel)) (di_list (dv 3))
          (blkOk_by (N := ["pool", "plan", "base_here", "shifts", "size", "handed", "made", "twin", "owed", "turn", "told", "spots", "spot", "at", "here"]) (sc := defScope sRight) (by decide +kernel)) (fun _ _ _ _ _ => (dg_tup rfl (dgs_cons (dg_name (i := 13) scRight.nd rfl (.inl rfl)) (dgs_cons (dg_name (i := 14) scRight.nd rfl (.inl rfl)) dgs_nil)) (.cons (.cons .nil)))) (fun _ _ _ _ _ => dts_nil)
          (fun _ _ _ _ _ => (de_op op_sub rd_I0 (de_op op_sub rd_I0 (de_op op_add rd_I0 (dv 13) (de_call Dr.ok rd_draw hr1 Dr.at_ Dr.kp Dr.bi (da_cons (dv 0) (da_cons (de_op op_add rd_I0 (de_op op_mul rd_I de_int (dv 4)) de_int) da_nil)))) (dv 4)) de_int)))
      (dss_cons (ds_set (i := 11) scRight.nd rfl (.inl rfl) (de_f (df_cat (dq (dv 11)) (dq (de_f (df_lst (da_cons (de_op op_sub rd_I0 (de_call Dr.ok rd_draw hr1 Dr.at_ Dr.kp Dr.bi (da_cons (dv 0) (da_cons de_int da_nil))) de_int) (da_cons (de_call Dr.ok rd_draw hr1 Dr.at_ Dr.kp Dr.bi (da_cons (dv 0) (da_cons (de_op op_pow rd_I de_int de_int) da_nil))) (da_cons (de_op op_sub rd_I0 de_int (de_call Dr.ok rd_draw hr1 Dr.at_ Dr.kp Dr.bi (da_cons (dv 0) (da_cons (de_op op_pow rd_I de_int de_int) da_nil)))) da_nil)))))))))
      (dss_cons (ds_for [12] PassesOwn.never rfl (di_list (dv 11)) (dg_name (i := 12) scRight.nd rfl (.inl rfl))
        (dss_one (ds_if (dt_cmp op_ne rd_Ne (de_b (call_rep2 hgd hu) (by rfl) T.repr (by decide +kernel) rd_repr (da_cons (de_f (df_lst (da_cons (de_callO (dv 6) cO GRC rd_ans hr5 bRC (da_cons (dv 12) da_nil)) (da_cons (de_callOK (dv 7) cO GRC rd_ans hr5 kRC (dk_cons (dv 12) dk_nil)) da_nil)))) da_nil)) (de_b (call_rep2 hgd hu) (by rfl) T.repr (by decide +kernel) rd_repr (da_cons (de_f (df_rep (dq (de_f (df_lst (da_cons (de_op op_add rd_I0 (dv 12) (de_call Of.ok (rd_spD rfl) hr1 Of.at_ Of.kp Of.bi (da_cons (dv 1) (da_cons (dv 12) da_nil)))) da_nil)))) de_int)) da_nil)))
          (dss_one (ds_ret de_bl))
          dss_nil)))
      (dss_one (ds_ret de_bl)))))))
    refine ⟨_, _, (dss_cons (ds_set (i := 1) scRight.nd rfl (.inl rfl) (de_call Pn.ok (rd_spD rfl) hr4 Pn.at_ Pn.kp Pn.bi (da_cons (dv 0) da_nil)))
      (dss_cons (ds_asg [2, 3] (dv 1) (dg_tup rfl (dgs_cons (dg_name (i := 2) scRight.nd rfl (.inl rfl)) (dgs_cons (dg_name (i := 3) scRight.nd rfl (.inl rfl)) dgs_nil)) (.cons (.cons .nil))))
      (dss_cons (ds_set (i := 4) scRight.nd rfl (.inr rfl) (de_bQ call_len_seq (by rfl) T.len PySem.boot_len rd_len (dq (dv 2))))
      (dss_secA (K0 := K) 2 3 5 6 7 h8
      (fun hx => pss_cons (ps_set (i := 5) scRight.nd rfl (.inl rfl) (pe_lst (pa_cons (pe_callTy call_list_of (by rfl) T.list (by decide +kernel) (pa_cons (pv 2) pa_nil)) (pa_cons (pe_callTy call_list_of (by rfl) T.list (by decide +kernel) (pa_cons (pv 3) pa_nil)) pa_nil))))
        (pss_cons (ps_par (i := 6) (j := 7) rfl scRight.nd rfl rfl (by decide) rfl rfl (pa_cons (pe_make MKR GRI hr (by rfl) ZR.at_ bRI .nil pass0 (pa_cons (pe_ix ix_list (pv 5) pe_int (fun _ _ => rfl)) (pa_cons (pe_ix ix_list (pv 5) pe_int (fun _ _ => rfl)) pa_nil))) (pa_cons (pe_makeK0 (ks := ["changes", "base"]) MKR GRI hr (by rfl) ZR.at_ kRI pass0 (pk_cons (pe_callTy call_list_of (by rfl) T.list (by decide +kernel) (pa_cons (pv 3) pa_nil)) (pk_cons (pe_callTy call_list_of (by rfl) T.list (by decide +kernel) (pa_cons (pv 2) pa_nil)) pk_nil))) pa_nil)) (by rfl))
        (pss_cons (ps_if (pt_cmpR op_ne (pe_callB (call_rep2 hgd hu) (by rfl) T.repr (by decide +kernel) (pa_cons (pv 5) pa_nil)) (pe_callB (call_rep2 hgd hu) (by rfl) T.repr (by decide +kernel) (pa_cons (pe_lst (pa_cons (pv 2) (pa_cons (pv 3) pa_nil))) pa_nil)) (nomark _))
          (pss_one (ps_ret pe_bl))
          pss_nil)
        (pss_cons (ps_expr (pe_bm PySem.F.plainAttrs_list PySem.F.slot_list_append PySem.F.type_list_append mt_append (pe_ix ix_list (pv 5) pe_int (fun _ _ => rfl)) (pa_cons pe_int pa_nil)))
        (pss_cons (ps_expr (pe_bm0 PySem.F.plainAttrs_list PySem.F.slot_list_clear PySem.F.type_list_clear mt_clear (pe_ix ix_list (pv 5) pe_int (fun _ _ => rfl))))
        hx))))))))), fun ds n K h => ?_⟩
    obtain ⟨rfl, hn, k⟩ := h
    refine ⟨rfl, by omega, fun z bs cs m pk hm => ?_⟩
    have l0 : 0 < bs.length := by have := pk.len; have := pk.z0; omega
    have l1 : bs.length ≤ 12 := by have := pk.len; have := pk.z1; omega
    have rise := pk.up.rises l0 pk.asc
    have many := pk.many
    have hT : needed bs cs = (tell bs cs).2 := (tell_needed l0 cs pk.asc).symm
    have bb : ∀ v ∈ bs, -10 ^ 40 < v ∧ v < 10 ^ 40 := fun v hv => by have := pk.bb v hv; omega
    have cb : ∀ c ∈ cs, -10 ^ 40 < c.1 ∧ c.1 < 10 ^ 40 ∧ -10 ^ 40 < c.2 ∧ c.2 < 10 ^ 40 := fun c hc => by have := pk.cb c hc; omega
    have ts := tell_sub bs cs
    have tl := ts.length_le
    have tb : ∀ c ∈ (tell bs cs).2, -10 ^ 40 < c.1 ∧ c.1 < 10 ^ 40 ∧ -10 ^ 40 < c.2 ∧ c.2 < 10 ^ 40 := fun c hc => cb c (ts.subset hc)
    have off : ∀ t, offAt bs (tell bs cs).2 t = lawOff bs cs t := offAt_tell l0 pk.asc
    have lb : ∀ t, -(3 * 10 ^ 31) ≤ lawOff bs cs t ∧ lawOff bs cs t ≤ 3 * 10 ^ 31 := fun t => by
      rcases lawOff_mem (cs := cs) (t := t) l0 with h | ⟨c, hc, h⟩
      · exact pk.bb _ h
      · rw [h]
        exact (pk.cb c hc).2
    refine ⟨bs, cs, rfl, rfl, ⟨(by decide : 5 < 15), (by decide : 6 < 15), (by decide : 7 < 15), by decide, by decide, by decide, by decide, by decide, by decide, by decide, by decide⟩, l0, l1, by omega, pk.asc, rise, ⟨300, 10, by rw [py_ints, py_prs]; exact (Rp.list (.cons (rp_ints bb) (.cons (rp_marks cb) .nil))).mono (by omega) (by omega), by decide, by decide⟩, ?_⟩
    refine ⟨bs, cs, rfl, l0, by omega, three1000, ?_⟩
    rw [hT]
    generalize (tell bs cs).2 = T at hT ts tl tb off rise
    have eo : (DV.lst [.int ((bs.map DV.int).length : Nat), dInt bs, dPrs T]).py = shapeD bs T := by
      show PyData.list [.int ((bs.map DV.int).length : Nat), (dInt bs).py, (dPrs T).py] = _
      rw [py_ints, py_prs, List.length_map]
      rfl
    refine ⟨⟨300, 10, by rw [eo]; exact rp_shape l1 (by omega) bb tb, by decide, by decide⟩, by show (true && ((dInt bs).pu && ((dPrs T).pu && true))) = true; rw [pu_ints, pu_prs]; rfl, ?_⟩
    refine ⟨by decide, by decide, fun i δ m' => ∃ y9 y10 : Option SV, δ = [some (.dat .pool), some (.dat (.tup [dInt bs, dPrs cs])), some (.dat (dInt bs)), some (.dat (dPrs cs)), some (.dat (.int (bs.map DV.int).length)), none, some (.dat (.obj (.rul bs T))), some (.dat (.obj (.rul bs T))), some (.dat (.str (shapeD bs T).shown)), y9, y10, none, none, none, none] ∧ m' = m, ⟨none, none, by rw [← eo]; rfl, rfl⟩, ?_, ?_⟩
    · rintro i δ m' hi ⟨y9, y10, rfl, rfl⟩
      refine ⟨bs, T, rfl, (by decide : 10 < 15), by omega, by omega, ?_⟩
      refine ⟨bs, T, rfl, by omega, bb, tb, rfl, fun g => ?_, fun _ => ⟨bs, T, rfl, by omega, bb, tb, rfl, fun g => ?_, fun _ => ?_⟩⟩
      · have g2 := (ne_self _).symm.trans g
        cases g2
      · have g2 := (ne_self _).symm.trans g
        cases g2
      · exact ⟨_, _, rfl, rfl⟩
    rintro δ m' ⟨y9, y10, rfl, rfl⟩
    refine ⟨by rw [List.length_map]; omega, fun i acc m'' => ∃ xs : List Int, acc = xs.map DV.int ∧ xs.length = i ∧ (∀ x ∈ xs, -(10 ^ 33) < x ∧ x < 10 ^ 33) ∧ m'' ≤ n + 300 + i, ⟨[], rfl, rfl, (fun x hx => nomatch hx), by omega⟩, ?_, ?_⟩
    · rintro i acc m'' hi ⟨xs, rfl, xl, xb, hm2⟩
      have hi : i < cs.length := by simpa using hi
      simp only [getD_pr hi]
      have el : (((bs.map DV.int).length : Nat) : Int) = bs.length := by rw [List.length_map]
      have cm := pk.cb _ (getD_mem (z := (0, 0)) hi)
      refine ⟨fun _ => ⟨.inl ⟨by decide, by decide⟩, by omega, by omega, by omega, fun r r0 r1 => ?_⟩, fun z => nomatch z⟩
      refine ⟨xs ++ [(cs.getD i (0, 0)).1 + r - ((bs.map DV.int).length : Nat) - 1], by rw [List.map_append]; rfl, by rw [List.length_append, xl]; rfl, fun x hx => ?_, by omega⟩
      rcases List.mem_append.mp hx with h | h
      · exact xb x h
      · obtain rfl := List.mem_singleton.mp h
        omega
    rintro acc m'' ⟨xs, rfl, xl, xb, hm2⟩
    rw [List.length_map] at xl hm2
    refine ⟨by omega, by decide, by decide, fun r r0 r1 => ?_⟩
    refine ⟨⟨by decide, by decide, by decide⟩, by omega, by decide, by decide, fun r2 r20 r21 => ?_⟩
    refine ⟨⟨by decide, by decide, by decide⟩, by omega, by decide, by decide, fun r3 r30 r31 => ?_⟩
    have r22 : r2 < 10 ^ 31 := r21
    have r32 : r3 < 10 ^ 31 := r31
    refine ⟨three1000, by rw [List.length_map]; show xs.length + 3 ≤ 100000; omega, ?_⟩
    have ey : xs.map DV.int ++ [DV.int (r - 20), DV.int r2, DV.int (0 - r3)] = (xs ++ [r - 20, r2, 0 - r3]).map DV.int := by
      rw [List.map_append]
      rfl
    have yb : ∀ x ∈ xs ++ [r - 20, r2, 0 - r3], -(10 ^ 33) < x ∧ x < 10 ^ 33 := fun x hx => by
      rcases List.mem_append.mp hx with h | h
      · exact xb x h
      · rcases List.mem_cons.mp h with rfl | h
        · omega
        · rcases List.mem_cons.mp h with rfl | h
          · omega
          · obtain rfl := List.mem_singleton.mp h
            omega
    refine ⟨fun i δ m3 => ∃ y12 : Option SV, δ = [some (.dat .pool), some (.dat (.tup [dInt bs, dPrs cs])), some (.dat (dInt bs)), some (.dat (dPrs cs)), some (.dat (.int (bs.map DV.int).length)), none, some (.dat (.obj (.rul bs T))), some (.dat (.obj (.rul bs T))), some (.dat (.str (shapeD bs T).shown)), y9, y10, some (.dat (dInt (xs ++ [r - 20, r2, 0 - r3]))), y12, none, none] ∧ m3 = m'' + 3, ⟨none, by unfold dInt; rw [← ey]; rfl, rfl⟩, ?_, ?_⟩
    · rintro i δ m3 hi ⟨y12, rfl, rfl⟩
      have hi2 : i < (xs ++ [r - 20, r2, 0 - r3]).length := by
        have hi3 : i < (xs.map DV.int ++ [DV.int (r - 20), DV.int r2, DV.int (0 - r3)]).length := hi
        rw [ey, List.length_map] at hi3
        exact hi3
      have ef : ∀ ds : List DV, ds = (xs ++ [r - 20, r2, 0 - r3]).map DV.int → ds.getD i .non = .int ((xs ++ [r - 20, r2, 0 - r3]).getD i 0) := fun ds e => by rw [e, getD_int hi2]
      have vb := yb _ (getD_mem (z := 0) hi2)
      show dgN 12 ((xs.map DV.int ++ [DV.int (r - 20), DV.int r2, DV.int (0 - r3)]).getD i .non) _ _
      rw [ef _ ey]
      generalize (xs ++ [r - 20, r2, 0 - r3]).getD i 0 = v at vb
      have lv := lb v
      refine ⟨rfl, rfl, rfl, two1000, ?_⟩
      have rpv : Rp (PyData.list [.int (v + lawOff bs cs v), .int (v + lawOff bs cs v)]) 10 3 := (Rp.list (.cons (Rp.int (by omega) (by omega)) (.cons (Rp.int (by omega) (by omega)) .nil))).mono (by decide) (by decide)
      have e1 : (DV.lst [.int (v + offAt bs T v), .int (v + offAt bs T v)]).py = PyData.list [.int (v + lawOff bs cs v), .int (v + lawOff bs cs v)] := by
        rw [off]
        rfl
      refine ⟨⟨10, 3, by rw [e1]; exact rpv, by decide, by decide⟩, rfl, ?_⟩
      refine ⟨bs, cs, v, rfl, l0, one1000, by decide, by decide, (by decide : 1 * Int.toNat 2 ≤ 100000), ?_⟩
      refine ⟨⟨10, 3, rpv, by decide, by decide⟩, rfl, rfl, fun g => ?_, fun _ => ?_⟩
      · exfalso
        rw [e1] at g
        have g2 := (ne_self _).symm.trans g
        cases g2
      · exact ⟨_, rfl, rfl⟩
    · rintro δ m3 ⟨y12, rfl, rfl⟩
      exact k _ (by omega)
end

section
theorem all_mk {l : PySem.W.OpenLaw} {w : World} {K : PySem.W.Frag} {h : Heap} {mg : Str → Option Value} {fa LL RR f0 f1 f2 f3 f4 f5 f6 f7 f8 f9 f10 f11 f12 f13 f14 f15 f16 f17 f18 f19 f20 f21 f22 p22 f23 p23 f24 p24 f25 f26 f27 : Addr} (X : K.In h) (G : h.Ns mainGlobals mg) (hfa : mg "law" = some (.ref fa))
    {oc0 kV0 dc0 pm0 cd0 ct0 : Value} {od0 an0 : Option Addr} {sl0 : Array (Option Value)}
    {oc1 kV1 dc1 pm1 cd1 ct1 : Value} {od1 an1 : Option Addr} {sl1 : Array (Option Value)}
    {oc2 kV2 dc2 pm2 cd2 ct2 : Value} {od2 an2 : Option Addr} {sl2 : Array (Option Value)}
    {oc3 kV3 dc3 pm3 cd3 ct3 : Value} {od3 an3 : Option Addr} {sl3 : Array (Option Value)}
    {oc4 kV4 dc4 pm4 cd4 ct4 : Value} {od4 an4 : Option Addr} {sl4 : Array (Option Value)}
    {oc5 kV5 dc5 pm5 cd5 ct5 : Value} {od5 an5 : Option Addr} {sl5 : Array (Option Value)}
    {oc6 kV6 dc6 pm6 cd6 ct6 ocT6 : Value} {od6 an6 odT6 : Option Addr} {sl6 slT6 : Array (Option Value)} {dT6 : Addr} {tk6 : Tok} {nT6 : Nat}
    {oc7 kV7 dc7 pm7 cd7 ct7 : Value} {od7 an7 : Option Addr} {sl7 : Array (Option Value)}
    {oc8 kV8 dc8 pm8 cd8 ct8 : Value} {od8 an8 : Option Addr} {sl8 : Array (Option Value)}
    {oc9 kV9 dc9 pm9 cd9 ct9 : Value} {od9 an9 : Option Addr} {sl9 : Array (Option Value)}
    {oc10 kV10 dc10 pm10 cd10 ct10 : Value} {od10 an10 : Option Addr} {sl10 : Array (Option Value)}
    {oc11 kV11 dc11 pm11 cd11 ct11 : Value} {od11 an11 : Option Addr} {sl11 : Array (Option Value)}
    {oc12 kV12 dc12 pm12 cd12 ct12 : Value} {od12 an12 : Option Addr} {sl12 : Array (Option Value)}
    {oc13 kV13 dc13 pm13 cd13 ct13 : Value} {od13 an13 : Option Addr} {sl13 : Array (Option Value)}
    {oc14 kV14 dc14 pm14 cd14 ct14 : Value} {od14 an14 : Option Addr} {sl14 : Array (Option Value)}
    {oc15 kV15 dc15 pm15 cd15 ct15 : Value} {od15 an15 : Option Addr} {sl15 : Array (Option Value)}
    {oc16 kV16 dc16 pm16 cd16 ct16 : Value} {od16 an16 : Option Addr} {sl16 : Array (Option Value)}
    {oc17 kV17 dc17 pm17 cd17 ct17 : Value} {od17 an17 : Option Addr} {sl17 : Array (Option Value)}
    {oc18 kV18 dc18 pm18 cd18 ct18 : Value} {od18 an18 : Option Addr} {sl18 : Array (Option Value)}
    {oc19 kV19 dc19 pm19 cd19 ct19 : Value} {od19 an19 : Option Addr} {sl19 : Array (Option Value)}
    {oc20 kV20 dc20 pm20 cd20 ct20 : Value} {od20 an20 : Option Addr} {sl20 : Array (Option Value)}
    {oc21 kV21 dc21 pm21 cd21 ct21 : Value} {od21 an21 : Option Addr} {sl21 : Array (Option Value)}
    {rs22 : List Value}
    {oc22 kV22 dc22 pm22 cd22 ct22 : Value} {od22 an22 : Option Addr} {sl22 : Array (Option Value)}
    {rs23 : List Value}
    {oc23 kV23 dc23 pm23 cd23 ct23 : Value} {od23 an23 : Option Addr} {sl23 : Array (Option Value)}
    {rs24 : List Value}
    {oc24 kV24 dc24 pm24 cd24 ct24 : Value} {od24 an24 : Option Addr} {sl24 : Array (Option Value)}
    {oc25 kV25 dc25 pm25 cd25 ct25 : Value} {od25 an25 : Option Addr} {sl25 : Array (Option Value)}
    {oc26 kV26 dc26 pm26 cd26 ct26 : Value} {od26 an26 : Option Addr} {sl26 : Array (Option Value)}
    {oc27 kV27 dc27 pm27 cd27 ct27 : Value} {od27 an27 : Option Addr} {sl27 : Array (Option Value)}
    {t_GREATEST_WEEK : Tok}
    (aLL : PySem.W.nsIn K mainGlobals "Lane" = some (some (.ref LL)))
    (aRR : PySem.W.nsIn K mainGlobals "Rule" = some (some (.ref RR)))
    (a0 : PySem.W.nsIn K mainGlobals "check_week" = some (some (.ref f0)))
    (l0 : K.lookup f0 = some ⟨oc0, od0, .func (PySem.W.fnOf "check_week" "check_week" (defArgs sChkWeek) (defBody sChkWeek) (defScope sChkWeek) .none kV0 dc0 pm0 an0 cd0 ct0), sl0⟩)
    (c0 : PySem.W.codeIn K cd0 "check_week" = true)
    (k0 : PySem.W.keepIn K (.ref f0) = true)
    (a1 : PySem.W.nsIn K mainGlobals "is_behind" = some (some (.ref f1)))
    (l1 : K.lookup f1 = some ⟨oc1, od1, .func (PySem.W.fnOf "is_behind" "is_behind" (defArgs sBehind) (defBody sBehind) (defScope sBehind) .none kV1 dc1 pm1 an1 cd1 ct1), sl1⟩)
    (c1 : PySem.W.codeIn K cd1 "is_behind" = true)
    (k1 : PySem.W.keepIn K (.ref f1) = true)
    (a2 : PySem.W.nsIn K mainGlobals "many_upto" = some (some (.ref f2)))
    (l2 : K.lookup f2 = some ⟨oc2, od2, .func (PySem.W.fnOf "many_upto" "many_upto" (defArgs sUpto) (defBody sUpto) (defScope sUpto) .none kV2 dc2 pm2 an2 cd2 ct2), sl2⟩)
    (c2 : PySem.W.codeIn K cd2 "many_upto" = true)
    (k2 : PySem.W.keepIn K (.ref f2) = true)
    (a3 : PySem.W.nsIn K mainGlobals "telling_changes" = some (some (.ref f3)))
    (l3 : K.lookup f3 = some ⟨oc3, od3, .func (PySem.W.fnOf "telling_changes" "telling_changes" (defArgs sTelling) (defBody sTelling) (defScope sTelling) .none kV3 dc3 pm3 an3 cd3 ct3), sl3⟩)
    (c3 : PySem.W.codeIn K cd3 "telling_changes" = true)
    (k3 : PySem.W.keepIn K (.ref f3) = true)
    (a4 : PySem.W.nsIn K mainGlobals "lanes_of" = some (some (.ref f4)))
    (l4 : K.lookup f4 = some ⟨oc4, od4, .func (PySem.W.fnOf "lanes_of" "lanes_of" (defArgs sLanes) (defBody sLanes) (defScope sLanes) .none kV4 dc4 pm4 an4 cd4 ct4), sl4⟩)
    (c4 : PySem.W.codeIn K cd4 "lanes_of" = true)
    (k4 : PySem.W.keepIn K (.ref f4) = true)
    (a5 : PySem.W.nsIn K mainGlobals "changed_moments" = some (some (.ref f5)))
    (l5 : K.lookup f5 = some ⟨oc5, od5, .func (PySem.W.fnOf "changed_moments" "changed_moments" (defArgs sChanged) (defBody sChanged) (defScope sChanged) .none kV5 dc5 pm5 an5 cd5 ct5), sl5⟩)
    (c5 : PySem.W.codeIn K cd5 "changed_moments" = true)
    (k5 : PySem.W.keepIn K (.ref f5) = true)
    (a6 : PySem.W.nsIn K mainGlobals "beside" = some (some (.ref f6)))
    (l6 : K.lookup f6 = some ⟨oc6, od6, .func (PySem.W.fnOf "beside" "beside" (defArgs sBeside) (defBody sBeside) (defScope sBeside) (.ref dT6) kV6 dc6 pm6 an6 cd6 ct6), sl6⟩)
    (lT6 : K.lookup dT6 = some ⟨ocT6, odT6, .seq #[.int 0 tk6] nT6, slT6⟩)
    (c6 : PySem.W.codeIn K cd6 "beside" = true)
    (k6 : PySem.W.keepIn K (.ref f6) = true)
    (a7 : PySem.W.nsIn K mainGlobals "check_ascending" = some (some (.ref f7)))
    (l7 : K.lookup f7 = some ⟨oc7, od7, .func (PySem.W.fnOf "check_ascending" "check_ascending" (defArgs sAscend) (defBody sAscend) (defScope sAscend) .none kV7 dc7 pm7 an7 cd7 ct7), sl7⟩)
    (c7 : PySem.W.codeIn K cd7 "check_ascending" = true)
    (k7 : PySem.W.keepIn K (.ref f7) = true)
    (a8 : PySem.W.nsIn K mainGlobals "check_rising" = some (some (.ref f8)))
    (l8 : K.lookup f8 = some ⟨oc8, od8, .func (PySem.W.fnOf "check_rising" "check_rising" (defArgs sRising) (defBody sRising) (defScope sRising) .none kV8 dc8 pm8 an8 cd8 ct8), sl8⟩)
    (c8 : PySem.W.codeIn K cd8 "check_rising" = true)
    (k8 : PySem.W.keepIn K (.ref f8) = true)
    (a9 : PySem.W.nsIn K mainGlobals "_law_pool" = some (some (.ref f9)))
    (l9 : K.lookup f9 = some ⟨oc9, od9, .func (PySem.W.fnOf "_law_pool" "_law_pool" (defArgs sPool) (defBody sPool) (defScope sPool) .none kV9 dc9 pm9 an9 cd9 ct9), sl9⟩)
    (c9 : PySem.W.codeIn K cd9 "_law_pool" = true)
    (k9 : PySem.W.keepIn K (.ref f9) = true)
    (a10 : PySem.W.nsIn K mainGlobals "_law_draw" = some (some (.ref f10)))
    (l10 : K.lookup f10 = some ⟨oc10, od10, .func (PySem.W.fnOf "_law_draw" "_law_draw" (defArgs sDraw) (defBody sDraw) (defScope sDraw) .none kV10 dc10 pm10 an10 cd10 ct10), sl10⟩)
    (c10 : PySem.W.codeIn K cd10 "_law_draw" = true)
    (k10 : PySem.W.keepIn K (.ref f10) = true)
    (a11 : PySem.W.nsIn K mainGlobals "_law_offset" = some (some (.ref f11)))
    (l11 : K.lookup f11 = some ⟨oc11, od11, .func (PySem.W.fnOf "_law_offset" "_law_offset" (defArgs sOffL) (defBody sOffL) (defScope sOffL) .none kV11 dc11 pm11 an11 cd11 ct11), sl11⟩)
    (c11 : PySem.W.codeIn K cd11 "_law_offset" = true)
    (k11 : PySem.W.keepIn K (.ref f11) = true)
    (a12 : PySem.W.nsIn K mainGlobals "_law_rising" = some (some (.ref f12)))
    (l12 : K.lookup f12 = some ⟨oc12, od12, .func (PySem.W.fnOf "_law_rising" "_law_rising" (defArgs sRisingL) (defBody sRisingL) (defScope sRisingL) .none kV12 dc12 pm12 an12 cd12 ct12), sl12⟩)
    (c12 : PySem.W.codeIn K cd12 "_law_rising" = true)
    (k12 : PySem.W.keepIn K (.ref f12) = true)
    (a13 : PySem.W.nsIn K mainGlobals "_law_told" = some (some (.ref f13)))
    (l13 : K.lookup f13 = some ⟨oc13, od13, .func (PySem.W.fnOf "_law_told" "_law_told" (defArgs sTold) (defBody sTold) (defScope sTold) .none kV13 dc13 pm13 an13 cd13 ct13), sl13⟩)
    (c13 : PySem.W.codeIn K cd13 "_law_told" = true)
    (k13 : PySem.W.keepIn K (.ref f13) = true)
    (a14 : PySem.W.nsIn K mainGlobals "_law_shape" = some (some (.ref f14)))
    (l14 : K.lookup f14 = some ⟨oc14, od14, .func (PySem.W.fnOf "_law_shape" "_law_shape" (defArgs sShape) (defBody sShape) (defScope sShape) .none kV14 dc14 pm14 an14 cd14 ct14), sl14⟩)
    (c14 : PySem.W.codeIn K cd14 "_law_shape" = true)
    (k14 : PySem.W.keepIn K (.ref f14) = true)
    (a15 : PySem.W.nsIn K mainGlobals "_law_plan" = some (some (.ref f15)))
    (l15 : K.lookup f15 = some ⟨oc15, od15, .func (PySem.W.fnOf "_law_plan" "_law_plan" (defArgs sPlan) (defBody sPlan) (defScope sPlan) .none kV15 dc15 pm15 an15 cd15 ct15), sl15⟩)
    (c15 : PySem.W.codeIn K cd15 "_law_plan" = true)
    (k15 : PySem.W.keepIn K (.ref f15) = true)
    (a16 : PySem.W.nsIn K mainGlobals "_law_needed" = some (some (.ref f16)))
    (l16 : K.lookup f16 = some ⟨oc16, od16, .func (PySem.W.fnOf "_law_needed" "_law_needed" (defArgs sNeeded) (defBody sNeeded) (defScope sNeeded) .none kV16 dc16 pm16 an16 cd16 ct16), sl16⟩)
    (c16 : PySem.W.codeIn K cd16 "_law_needed" = true)
    (k16 : PySem.W.keepIn K (.ref f16) = true)
    (a17 : PySem.W.nsIn K mainGlobals "_law_right" = some (some (.ref f17)))
    (l17 : K.lookup f17 = some ⟨oc17, od17, .func (PySem.W.fnOf "_law_right" "_law_right" (defArgs sRight) (defBody sRight) (defScope sRight) .none kV17 dc17 pm17 an17 cd17 ct17), sl17⟩)
    (c17 : PySem.W.codeIn K cd17 "_law_right" = true)
    (k17 : PySem.W.keepIn K (.ref f17) = true)
    (a18 : PySem.W.nsIn K mainGlobals "law" = some (some (.ref f18)))
    (l18 : K.lookup f18 = some ⟨oc18, od18, .func (PySem.W.fnOf "law" "law" (defArgs sLaw) (defBody sLaw) (defScope sLaw) .none kV18 dc18 pm18 an18 cd18 ct18), sl18⟩)
    (c18 : PySem.W.codeIn K cd18 "law" = true)
    (k18 : PySem.W.keepIn K (.ref f18) = true)
    (a19 : PySem.W.findIn K (.ref LL) "__init__" = some (some (.ref f19)))
    (i19 : PySem.W.isFn K (.ref f19) = true)
    (j19 : PySem.W.fnIn K f19 = true)
    (l19 : K.lookup f19 = some ⟨oc19, od19, .func (PySem.W.fnOf "__init__" "Lane.__init__" (defArgs sLaneI) (defBody sLaneI) (defScope sLaneI) .none kV19 dc19 pm19 an19 cd19 ct19), sl19⟩)
    (c19 : PySem.W.codeIn K cd19 "Lane.__init__" = true)
    (k19 : PySem.W.keepIn K (.ref f19) = true)
    (a20 : PySem.W.findIn K (.ref LL) "offset" = some (some (.ref f20)))
    (i20 : PySem.W.isFn K (.ref f20) = true)
    (j20 : PySem.W.fnIn K f20 = true)
    (l20 : K.lookup f20 = some ⟨oc20, od20, .func (PySem.W.fnOf "offset" "Lane.offset" (defArgs sLaneOff) (defBody sLaneOff) (defScope sLaneOff) .none kV20 dc20 pm20 an20 cd20 ct20), sl20⟩)
    (c20 : PySem.W.codeIn K cd20 "Lane.offset" = true)
    (k20 : PySem.W.keepIn K (.ref f20) = true)
    (a21 : PySem.W.findIn K (.ref RR) "__init__" = some (some (.ref f21)))
    (i21 : PySem.W.isFn K (.ref f21) = true)
    (j21 : PySem.W.fnIn K f21 = true)
    (l21 : K.lookup f21 = some ⟨oc21, od21, .func (PySem.W.fnOf "__init__" "Rule.__init__" (defArgs sRuI) (defBody sRuI) (defScope sRuI) .none kV21 dc21 pm21 an21 cd21 ct21), sl21⟩)
    (c21 : PySem.W.codeIn K cd21 "Rule.__init__" = true)
    (k21 : PySem.W.keepIn K (.ref f21) = true)
    (a22 : PySem.W.findIn K (.ref RR) "week" = some (some (.ref p22)))
    (g22 : PySem.W.specialIn K (.ref p22) "__get__" = some (some (.builtin "property.__get__")))
    (t22 : PySem.W.takesIn K (.ref p22) = some true)
    (r22 : PySem.W.recIn K p22 "property" = some (.ref f22 :: rs22))
    (l22 : K.lookup f22 = some ⟨oc22, od22, .func (PySem.W.fnOf "week" "Rule.week" (defArgs sRuWeek) (defBody sRuWeek) (defScope sRuWeek) .none kV22 dc22 pm22 an22 cd22 ct22), sl22⟩)
    (c22 : PySem.W.codeIn K cd22 "Rule.week" = true)
    (k22 : PySem.W.keepIn K (.ref f22) = true)
    (a23 : PySem.W.findIn K (.ref RR) "base" = some (some (.ref p23)))
    (g23 : PySem.W.specialIn K (.ref p23) "__get__" = some (some (.builtin "property.__get__")))
    (t23 : PySem.W.takesIn K (.ref p23) = some true)
    (r23 : PySem.W.recIn K p23 "property" = some (.ref f23 :: rs23))
    (l23 : K.lookup f23 = some ⟨oc23, od23, .func (PySem.W.fnOf "base" "Rule.base" (defArgs sRuBase) (defBody sRuBase) (defScope sRuBase) .none kV23 dc23 pm23 an23 cd23 ct23), sl23⟩)
    (c23 : PySem.W.codeIn K cd23 "Rule.base" = true)
    (k23 : PySem.W.keepIn K (.ref f23) = true)
    (a24 : PySem.W.findIn K (.ref RR) "changes" = some (some (.ref p24)))
    (g24 : PySem.W.specialIn K (.ref p24) "__get__" = some (some (.builtin "property.__get__")))
    (t24 : PySem.W.takesIn K (.ref p24) = some true)
    (r24 : PySem.W.recIn K p24 "property" = some (.ref f24 :: rs24))
    (l24 : K.lookup f24 = some ⟨oc24, od24, .func (PySem.W.fnOf "changes" "Rule.changes" (defArgs sRuChanges) (defBody sRuChanges) (defScope sRuChanges) .none kV24 dc24 pm24 an24 cd24 ct24), sl24⟩)
    (c24 : PySem.W.codeIn K cd24 "Rule.changes" = true)
    (k24 : PySem.W.keepIn K (.ref f24) = true)
    (a25 : PySem.W.findIn K (.ref RR) "offset" = some (some (.ref f25)))
    (i25 : PySem.W.isFn K (.ref f25) = true)
    (j25 : PySem.W.fnIn K f25 = true)
    (l25 : K.lookup f25 = some ⟨oc25, od25, .func (PySem.W.fnOf "offset" "Rule.offset" (defArgs sRuOff) (defBody sRuOff) (defScope sRuOff) .none kV25 dc25 pm25 an25 cd25 ct25), sl25⟩)
    (c25 : PySem.W.codeIn K cd25 "Rule.offset" = true)
    (k25 : PySem.W.keepIn K (.ref f25) = true)
    (a26 : PySem.W.findIn K (.ref RR) "answer" = some (some (.ref f26)))
    (i26 : PySem.W.isFn K (.ref f26) = true)
    (j26 : PySem.W.fnIn K f26 = true)
    (l26 : K.lookup f26 = some ⟨oc26, od26, .func (PySem.W.fnOf "answer" "Rule.answer" (defArgs sRuAns) (defBody sRuAns) (defScope sRuAns) .none kV26 dc26 pm26 an26 cd26 ct26), sl26⟩)
    (c26 : PySem.W.codeIn K cd26 "Rule.answer" = true)
    (k26 : PySem.W.keepIn K (.ref f26) = true)
    (a27 : PySem.W.findIn K (.ref RR) "__call__" = some (some (.ref f27)))
    (i27 : PySem.W.isFn K (.ref f27) = true)
    (j27 : PySem.W.fnIn K f27 = true)
    (l27 : K.lookup f27 = some ⟨oc27, od27, .func (PySem.W.fnOf "__call__" "Rule.__call__" (defArgs sRuCall) (defBody sRuCall) (defScope sRuCall) .none kV27 dc27 pm27 an27 cd27 ct27), sl27⟩)
    (c27 : PySem.W.codeIn K cd27 "Rule.__call__" = true)
    (k27 : PySem.W.keepIn K (.ref f27) = true)
    (z_int : PySem.W.nsIn K mainGlobals "int" = some none)
    (z_len : PySem.W.nsIn K mainGlobals "len" = some none)
    (z_abs : PySem.W.nsIn K mainGlobals "abs" = some none)
    (z_max : PySem.W.nsIn K mainGlobals "max" = some none)
    (z_min : PySem.W.nsIn K mainGlobals "min" = some none)
    (z_range : PySem.W.nsIn K mainGlobals "range" = some none)
    (z_repr : PySem.W.nsIn K mainGlobals "repr" = some none)
    (z_list : PySem.W.nsIn K mainGlobals "list" = some none)
    (z_enumerate : PySem.W.nsIn K mainGlobals "enumerate" = some none)
    (z_sorted : PySem.W.nsIn K mainGlobals "sorted" = some none)
    (q_GREATEST_WEEK : PySem.W.nsIn K mainGlobals "GREATEST_WEEK" = some (some (.int 12 t_GREATEST_WEEK)))
    (pgLL : PySem.W.plainGet K LL Str.empty = true)
    (hdLL : PySem.W.hasDictIn K LL = true)
    (poLL : PySem.W.plainOver K LL = true)
    (mkLL : PySem.W.makesIn K LL = true)
    (kcLL : PySem.W.keepIn K (.ref LL) = true)
    (saLL : PySem.W.findIn K (.ref LL) "__setattr__" = some (some (.builtin "object.__setattr__")))
    (nLLrest : PySem.W.findIn K (.ref LL) "rest" = some none)
    (nLLstep : PySem.W.findIn K (.ref LL) "step" = some none)
    (nLLmarks : PySem.W.findIn K (.ref LL) "marks" = some none)
    (nLLoffsets : PySem.W.findIn K (.ref LL) "offsets" = some none)
    (nLLgoals : PySem.W.findIn K (.ref LL) "goals" = some none)
    (pgRR : PySem.W.plainGet K RR Str.empty = true)
    (hdRR : PySem.W.hasDictIn K RR = true)
    (poRR : PySem.W.plainOver K RR = true)
    (mkRR : PySem.W.makesIn K RR = true)
    (kcRR : PySem.W.keepIn K (.ref RR) = true)
    (saRR : PySem.W.findIn K (.ref RR) "__setattr__" = some (some (.builtin "object.__setattr__")))
    (nRR_base : PySem.W.findIn K (.ref RR) "_base" = some none)
    (nRR_changes : PySem.W.findIn K (.ref RR) "_changes" = some none)
    (nRR_lanes : PySem.W.findIn K (.ref RR) "_lanes" = some none) :
    ∃ fd : FuncData, (∀ (s : Shared) (v : Value), BindsTo s fd ⟨[v], []⟩ [("script", v)]) ∧ ∀ base : Heap, K.In base → base.Ns mainGlobals mg → FnG l.prog w K mg base 8 fa fd ["script"] (spLaw K) := by
  have e := hfa.symm.trans (PySem.W.mg_of X G a18)
  cases e
  have F_sChkWeek := fun_mk (st := sChkWeek) l0 c0 k0
  have b_sChkWeek := F_sChkWeek.binds (ps := ["number"]) fun _ _ _ _ _ _ us hl => match us, hl with | [_], _ => rfl
  have m_sChkWeek := PySem.W.mg_of X G a0
  have k_sChkWeek := k0
  have F_sBehind := fun_mk (st := sBehind) l1 c1 k1
  have b_sBehind := F_sBehind.binds (ps := ["changes", "index"]) fun _ _ _ _ _ _ us hl => match us, hl with | [_, _], _ => rfl
  have m_sBehind := PySem.W.mg_of X G a1
  have k_sBehind := k1
  have F_sUpto := fun_mk (st := sUpto) l2 c2 k2
  have b_sUpto := F_sUpto.binds (ps := ["numbers", "limit"]) fun _ _ _ _ _ _ us hl => match us, hl with | [_, _], _ => rfl
  have m_sUpto := PySem.W.mg_of X G a2
  have k_sUpto := k2
  have F_sTelling := fun_mk (st := sTelling) l3 c3 k3
  have b_sTelling := F_sTelling.binds (ps := ["base", "changes"]) fun _ _ _ _ _ _ us hl => match us, hl with | [_, _], _ => rfl
  have m_sTelling := PySem.W.mg_of X G a3
  have k_sTelling := k3
  have F_sLanes := fun_mk (st := sLanes) l4 c4 k4
  have b_sLanes := F_sLanes.binds (ps := ["base", "changes"]) fun _ _ _ _ _ _ us hl => match us, hl with | [_, _], _ => rfl
  have m_sLanes := PySem.W.mg_of X G a4
  have k_sLanes := k4
  have F_sChanged := fun_mk (st := sChanged) l5 c5 k5
  have m_sChanged := PySem.W.mg_of X G a5
  have k_sChanged := k5
  have F_sBeside : FunD K "beside" "beside" (defArgs sBeside) (defBody sBeside) (defScope sBeside) [.int 0] [] f6 _ := ⟨⟨_, _, _, _, _, _, _, _, _, _, rfl, l6, c6, .inr ⟨by decide, dT6, _, [.int 0 tk6], nT6, rfl, lT6, rfl, .cons ⟨_, rfl⟩ .nil⟩, .inl rfl⟩, k6⟩
  have m_sBeside := PySem.W.mg_of X G a6
  have k_sBeside := k6
  have F_sAscend := fun_mk (st := sAscend) l7 c7 k7
  have b_sAscend := F_sAscend.binds (ps := ["changes"]) fun _ _ _ _ _ _ us hl => match us, hl with | [_], _ => rfl
  have m_sAscend := PySem.W.mg_of X G a7
  have k_sAscend := k7
  have F_sRising := fun_mk (st := sRising) l8 c8 k8
  have b_sRising := F_sRising.binds (ps := ["rule"]) fun _ _ _ _ _ _ us hl => match us, hl with | [_], _ => rfl
  have m_sRising := PySem.W.mg_of X G a8
  have k_sRising := k8
  have F_sPool := fun_mk (st := sPool) l9 c9 k9
  have b_sPool := F_sPool.binds (ps := ["script", "spot"]) fun _ _ _ _ _ _ us hl => match us, hl with | [_, _], _ => rfl
  have m_sPool := PySem.W.mg_of X G a9
  have k_sPool := k9
  have F_sDraw := fun_mk (st := sDraw) l10 c10 k10
  have b_sDraw := F_sDraw.binds (ps := ["pool", "span"]) fun _ _ _ _ _ _ us hl => match us, hl with | [_, _], _ => rfl
  have m_sDraw := PySem.W.mg_of X G a10
  have k_sDraw := k10
  have F_sOffL := fun_mk (st := sOffL) l11 c11 k11
  have b_sOffL := F_sOffL.binds (ps := ["plan", "spot"]) fun _ _ _ _ _ _ us hl => match us, hl with | [_, _], _ => rfl
  have m_sOffL := PySem.W.mg_of X G a11
  have k_sOffL := k11
  have F_sRisingL := fun_mk (st := sRisingL) l12 c12 k12
  have b_sRisingL := F_sRisingL.binds (ps := ["pool", "size"]) fun _ _ _ _ _ _ us hl => match us, hl with | [_, _], _ => rfl
  have m_sRisingL := PySem.W.mg_of X G a12
  have k_sRisingL := k12
  have F_sTold := fun_mk (st := sTold) l13 c13 k13
  have b_sTold := F_sTold.binds (ps := ["pool", "size", "reach", "jump"]) fun _ _ _ _ _ _ us hl => match us, hl with | [_, _, _, _], _ => rfl
  have m_sTold := PySem.W.mg_of X G a13
  have k_sTold := k13
  have F_sShape := fun_mk (st := sShape) l14 c14 k14
  have b_sShape := F_sShape.binds (ps := ["made"]) fun _ _ _ _ _ _ us hl => match us, hl with | [_], _ => rfl
  have m_sShape := PySem.W.mg_of X G a14
  have k_sShape := k14
  have F_sPlan := fun_mk (st := sPlan) l15 c15 k15
  have b_sPlan := F_sPlan.binds (ps := ["pool"]) fun _ _ _ _ _ _ us hl => match us, hl with | [_], _ => rfl
  have m_sPlan := PySem.W.mg_of X G a15
  have k_sPlan := k15
  have F_sNeeded := fun_mk (st := sNeeded) l16 c16 k16
  have b_sNeeded := F_sNeeded.binds (ps := ["plan"]) fun _ _ _ _ _ _ us hl => match us, hl with | [_], _ => rfl
  have m_sNeeded := PySem.W.mg_of X G a16
  have k_sNeeded := k16
  have F_sRight := fun_mk (st := sRight) l17 c17 k17
  have b_sRight := F_sRight.binds (ps := ["pool"]) fun _ _ _ _ _ _ us hl => match us, hl with | [_], _ => rfl
  have m_sRight := PySem.W.mg_of X G a17
  have k_sRight := k17
  have F_sLaw := fun_mk (st := sLaw) l18 c18 k18
  have b_sLaw := F_sLaw.binds (ps := ["script"]) fun _ _ _ _ _ _ us hl => match us, hl with | [_], _ => rfl
  have m_sLaw := PySem.W.mg_of X G a18
  have k_sLaw := k18
  have o_sLaneI : Own K LL "__init__" f19 := ⟨a19, i19, j19⟩
  have F_sLaneI := fun_mk (st := sLaneI) l19 c19 k19
  have b_sLaneI := F_sLaneI.binds (ps := ["self", "rest", "step", "offset", "changes"]) fun _ _ _ _ _ _ us hl => match us, hl with | [_, _, _, _, _], _ => rfl
  have h_sLaneI : Meth K LL "__init__" f19 := ⟨a19, i19, k19⟩
  have MKLL : Mk K LL f19 := ⟨mkLL, a19, i19, kcLL⟩
  have o_sLaneOff : Own K LL "offset" f20 := ⟨a20, i20, j20⟩
  have F_sLaneOff := fun_mk (st := sLaneOff) l20 c20 k20
  have b_sLaneOff := F_sLaneOff.binds (ps := ["self", "moment"]) fun _ _ _ _ _ _ us hl => match us, hl with | [_, _], _ => rfl
  have h_sLaneOff : Meth K LL "offset" f20 := ⟨a20, i20, k20⟩
  have o_sRuI : Own K RR "__init__" f21 := ⟨a21, i21, j21⟩
  have F_sRuI := fun_mk (st := sRuI) l21 c21 k21
  have b_sRuI := F_sRuI.binds (ps := ["self", "base", "changes"]) fun _ _ _ _ _ _ us hl => match us, hl with | [_, _, _], _ => rfl
  have h_sRuI : Meth K RR "__init__" f21 := ⟨a21, i21, k21⟩
  have MKRR : Mk K RR f21 := ⟨mkRR, a21, i21, kcRR⟩
  have F_sRuWeek := fun_mk (st := sRuWeek) l22 c22 k22
  have b_sRuWeek := F_sRuWeek.binds (ps := ["self"]) fun _ _ _ _ _ _ us hl => match us, hl with | [_], _ => rfl
  have P_sRuWeek : PropOf K RR "week" p22 f22 := ⟨a22, g22, t22, _, r22⟩
  have F_sRuBase := fun_mk (st := sRuBase) l23 c23 k23
  have b_sRuBase := F_sRuBase.binds (ps := ["self"]) fun _ _ _ _ _ _ us hl => match us, hl with | [_], _ => rfl
  have P_sRuBase : PropOf K RR "base" p23 f23 := ⟨a23, g23, t23, _, r23⟩
  have F_sRuChanges := fun_mk (st := sRuChanges) l24 c24 k24
  have b_sRuChanges := F_sRuChanges.binds (ps := ["self"]) fun _ _ _ _ _ _ us hl => match us, hl with | [_], _ => rfl
  have P_sRuChanges : PropOf K RR "changes" p24 f24 := ⟨a24, g24, t24, _, r24⟩
  have o_sRuOff : Own K RR "offset" f25 := ⟨a25, i25, j25⟩
  have F_sRuOff := fun_mk (st := sRuOff) l25 c25 k25
  have b_sRuOff := F_sRuOff.binds (ps := ["self", "moment"]) fun _ _ _ _ _ _ us hl => match us, hl with | [_, _], _ => rfl
  have h_sRuOff : Meth K RR "offset" f25 := ⟨a25, i25, k25⟩
  have o_sRuAns : Own K RR "answer" f26 := ⟨a26, i26, j26⟩
  have F_sRuAns := fun_mk (st := sRuAns) l26 c26 k26
  have b_sRuAns := F_sRuAns.binds (ps := ["self", "moment"]) fun _ _ _ _ _ _ us hl => match us, hl with | [_, _], _ => rfl
  have h_sRuAns : Meth K RR "answer" f26 := ⟨a26, i26, k26⟩
  have o_sRuCall : Own K RR "__call__" f27 := ⟨a27, i27, j27⟩
  have F_sRuCall := fun_mk (st := sRuCall) l27 c27 k27
  have b_sRuCall := F_sRuCall.binds (ps := ["self", "moment"]) fun _ _ _ _ _ _ us hl => match us, hl with | [_, _], _ => rfl
  have h_sRuCall : Meth K RR "__call__" f27 := ⟨a27, i27, k27⟩
  have clLL : Cls K LL := ⟨pgLL, hdLL, poLL, saLL⟩
  have mgLL := PySem.W.mg_of X G aLL
  have clRR : Cls K RR := ⟨pgRR, hdRR, poRR, saRR⟩
  have mgRR := PySem.W.mg_of X G aRR
  have n_int : mg "int" = none := PySem.W.mg_none_of X G z_int
  have n_len : mg "len" = none := PySem.W.mg_none_of X G z_len
  have n_abs : mg "abs" = none := PySem.W.mg_none_of X G z_abs
  have n_max : mg "max" = none := PySem.W.mg_none_of X G z_max
  have n_min : mg "min" = none := PySem.W.mg_none_of X G z_min
  have n_range : mg "range" = none := PySem.W.mg_none_of X G z_range
  have n_repr : mg "repr" = none := PySem.W.mg_none_of X G z_repr
  have n_list : mg "list" = none := PySem.W.mg_none_of X G z_list
  have n_enumerate : mg "enumerate" = none := PySem.W.mg_none_of X G z_enumerate
  have n_sorted : mg "sorted" = none := PySem.W.mg_none_of X G z_sorted
  have v_GREATEST_WEEK := PySem.W.mg_of X G q_GREATEST_WEEK
  refine ⟨PySem.W.fnOf "law" "law" (defArgs sLaw) (defBody sLaw) (defScope sLaw) .none kV18 dc18 pm18 an18 cd18 ct18, fun s v => .of_eq rfl, fun base _ _ => ?_⟩
  have T : Blt mg := ⟨n_int, n_len, n_abs, n_max, n_min, n_range, n_repr, n_list⟩
  have QW : ConW mg := ⟨⟨_, v_GREATEST_WEEK⟩⟩
  have ZL : LaC K mg LL := ⟨clLL, nLLrest, nLLstep, nLLmarks, nLLoffsets, nLLgoals, mgLL⟩
  have ZR : RuC K mg RR := ⟨clRR, nRR_base, nRR_changes, nRR_lanes, mgRR⟩
  have T5 : Blt5 mg := ⟨n_sorted⟩
  have CWk : At l.prog w K mg base 1 "check_week" ["number"] spChkW _ _ := ⟨ok_chkW F_sChkWeek QW, m_sChkWeek, k_sChkWeek, b_sChkWeek⟩
  have IBh : At l.prog w K mg base 1 "is_behind" ["changes", "index"] (spBehind K) _ _ := ⟨ok_behind F_sBehind, m_sBehind, k_sBehind, b_sBehind⟩
  have Up : At l.prog w K mg base 1 "many_upto" ["numbers", "limit"] spUpto _ _ := ⟨ok_upto F_sUpto T, m_sUpto, k_sUpto, b_sUpto⟩
  have GLI : FnOk l.prog w K mg base CX0 1 _ _ ["self", "rest", "step", "offset", "changes"] (spLaneI LL K) := ok_laneI F_sLaneI ZL
  have GLO : FnOk l.prog w K mg base CX0 2 _ _ ["self", "moment"] (spLaneOff LL) := ok_laneOff F_sLaneOff ZL Up
  have Te0 : At l.prog w K mg base 1 "telling_changes" ["base", "changes"] (spTelling K) _ _ := ⟨ok_telling F_sTelling T, m_sTelling, k_sTelling, b_sTelling⟩
  have La0 : At l.prog w K mg base 3 "lanes_of" ["base", "changes"] (spLanes LL K) _ _ := ⟨ok_lanes F_sLanes T n_enumerate ZL MKLL GLI b_sLaneI, m_sLanes, k_sLanes, b_sLanes⟩
  have V1 : Pp l.prog w K mg base RR "week" (spRuWeek RR LL) _ _ _ := ⟨P_sRuWeek, ok_ruWeek F_sRuWeek ZR T, b_sRuWeek⟩
  have V2 : Pp l.prog w K mg base RR "base" (spRuBase RR LL) _ _ _ := ⟨P_sRuBase, ok_ruBase F_sRuBase ZR T, b_sRuBase⟩
  have V3 : Pp l.prog w K mg base RR "changes" (spChOf (ThR RR LL)) _ _ _ := ⟨P_sRuChanges, ok_ruChanges F_sRuChanges ZR T, b_sRuChanges⟩
  have ChM : AtR l.prog w K mg base 3 "changed_moments" (spMoms (ThR RR LL)) _ := ⟨ok_moms F_sChanged ZR.cl thR T5 V3, m_sChanged, k_sChanged⟩
  have GRO : FnOk l.prog w K mg base CX0 3 _ _ ["self", "moment"] (spRuOff RR LL) := ok_ruOff F_sRuOff ZR T ZL h_sLaneOff GLO b_sLaneOff
  have GRA : FnOk l.prog w K mg base CX0 4 _ _ ["self", "moment"] (spRuAns RR LL) := ok_ruAns F_sRuAns ZR h_sRuOff GRO b_sRuOff
  have GRC : FnOk l.prog w K mg base CX0 5 _ _ ["self", "moment"] (spRuAns RR LL) := ok_ruCall F_sRuCall ZR h_sRuAns GRA b_sRuAns
  have FB := ok_besideG (P := l.prog) (w := w) (mg := mg) (base := base) F_sBeside T T5
  obtain ⟨dd, rB, bB⟩ := F_sBeside.binds1 (ps := ["cuts", "week", "centre"]) 2 0 (by decide) (by decide) (fun T kV doc pm an cdv ct us its l1 l2 => match us, its, l1, l2 with | [a, b], [d], _, _ => ⟨_, rfl, rfl⟩)
  have Ac0 : At l.prog w K mg base 2 "check_ascending" ["changes"] (spAscend K) _ _ := ⟨ok_ascend F_sAscend T IBh, m_sAscend, k_sAscend, b_sAscend⟩
  have Ri0 : At l.prog w K mg base 4 "check_rising" ["rule"] (spRising RR LL) _ _ := ⟨ok_rising F_sRising ZR ChM FB m_sBeside k_sBeside bB rB V1 h_sRuOff GRO b_sRuOff, m_sRising, k_sRising, b_sRising⟩
  have GRI : FnOk l.prog w K mg base CX0 5 _ _ ["self", "base", "changes"] (spRuI RR LL K) := ok_ruI F_sRuI ZR T CWk Ac0 Te0 La0 Ri0
  have Dr : Dk l.prog w K mg base _ _ := ⟨ok_draw F_sDraw T, m_sDraw, k_sDraw, b_sDraw⟩
  have Po : At l.prog w K mg base 1 "_law_pool" ["script", "spot"] (spPool K) _ _ := ⟨ok_pool F_sPool T, m_sPool, k_sPool, b_sPool⟩
  have Rs : At l.prog w K mg base 2 "_law_rising" ["pool", "size"] spRisingL _ _ := ⟨ok_risingL F_sRisingL T T5 Dr, m_sRisingL, k_sRisingL, b_sRisingL⟩
  have GS : FnG l.prog w K mg base 3 _ _ ["made"] (spShape RR LL) := ok_shape F_sShape ZR T V1 V2 V3
  have DrA : At l.prog w K mg base 1 "_law_draw" ["pool", "span"] spTake _ _ := ⟨Dr.ok, Dr.at_, Dr.kp, Dr.bi⟩
  have SH : AtG l.prog w K mg base 3 "_law_shape" ["made"] (spShape RR LL) _ _ := ⟨GS, m_sShape, k_sShape, b_sShape⟩
  have Of : At l.prog w K mg base 1 "_law_offset" ["plan", "spot"] (spD (Wr RR LL) fOffL) _ _ := ⟨ok_ofD F_sOffL T, m_sOffL, k_sOffL, b_sOffL⟩
  have To : At l.prog w K mg base 3 "_law_told" ["pool", "size", "reach", "jump"] (spD (Wr RR LL) fTold) _ _ := ⟨ok_told F_sTold T n_enumerate DrA Rs Of, m_sTold, k_sTold, b_sTold⟩
  have Pn : At l.prog w K mg base 4 "_law_plan" ["pool"] (spD (Wr RR LL) fPlan) _ _ := ⟨ok_plan F_sPlan T T5 DrA Of To, m_sPlan, k_sPlan, b_sPlan⟩
  have Nd : At l.prog w K mg base 2 "_law_needed" ["plan"] (spD (Wr RR LL) fNeed) _ _ := ⟨ok_need F_sNeeded Of, m_sNeeded, k_sNeeded, b_sNeeded⟩
  have GF : FnG l.prog w K mg base 7 _ _ ["pool"] spFits := fits_of (ok_right F_sRight T ZR DrA Of Pn Nd SH V2 V3 MKRR GRI b_sRuI (kb_ru F_sRuI) ⟨o_sRuCall.at_, o_sRuCall.fn, o_sRuCall.fi⟩ GRC b_sRuCall (kb_call F_sRuCall))
  exact ok_law (by decide) F_sLaw T Po GF m_sRight k_sRight b_sRight
end
end DK
open PySem PySem.W PyProof.Rows
set_option maxRecDepth 100000 in
set_option maxHeartbeats 0 in
theorem PySem.Challenge.cw_dueclocks_k21_rules_by_their_changes_holds : PySem.Challenge.rw_dueclocks_k21_rules_by_their_changes.Holds := by
  w_on; o_law; k_head; (case hw => w_witness2)
  k_fill
  refine DK.walkG (l := PySem.Challenge.rw_dueclocks_k21_rules_by_their_changes) (n := 63) (k := 8) (x := "script") (sp := DK.spLaw) rfl (by decide) rfl ⟨rfl, by decide, by decide⟩ (fun w h Y => PySem.W.kIn_of Y) ?F (fun J H a ns hl hO hS => ⟨a, ns, rfl, DK.Scr.of hO hS, hl, fun _ => rfl⟩)
  case F =>
    intro w mg fa h KX G hmg
    refine' DK.all_mk KX G hmg ?aLL ?aRR ?a0 ?l0 ?c0 ?k0 ?a1 ?l1 ?c1 ?k1 ?a2 ?l2 ?c2 ?k2 ?a3 ?l3 ?c3 ?k3 ?a4 ?l4 ?c4 ?k4 ?a5 ?l5 ?c5 ?k5 ?a6 ?l6 ?lT6 ?c6 ?k6 ?a7 ?l7 ?c7 ?k7 ?a8 ?l8 ?c8 ?k8 ?a9 ?l9 ?c9 ?k9 ?a10 ?l10 ?c10 ?k10 ?a11 ?l11 ?c11 ?k11 ?a12 ?l12 ?c12 ?k12 ?a13 ?l13 ?c13 ?k13 ?a14 ?l14 ?c14 ?k14 ?a15 ?l15 ?c15 ?k15 ?a16 ?l16 ?c16 ?k16 ?a17 ?l17 ?c17 ?k17 ?a18 ?l18 ?c18 ?k18 ?a19 ?i19 ?j19 ?l19 ?c19 ?k19 ?a20 ?i20 ?j20 ?l20 ?c20 ?k20 ?a21 ?i21 ?j21 ?l21 ?c21 ?k21 ?a22 ?g22 ?t22 ?r22 ?l22 ?c22 ?k22 ?a23 ?g23 ?t23 ?r23 ?l23 ?c23 ?k23 ?a24 ?g24 ?t24 ?r24 ?l24 ?c24 ?k24 ?a25 ?i25 ?j25 ?l25 ?c25 ?k25 ?a26 ?i26 ?j26 ?l26 ?c26 ?k26 ?a27 ?i27 ?j27 ?l27 ?c27 ?k27 ?z_int ?z_len ?z_abs ?z_max ?z_min ?z_range ?z_repr ?z_list ?z_enumerate ?z_sorted ?q_GREATEST_WEEK ?pgLL ?hdLL ?poLL ?mkLL ?kcLL ?saLL ?nLLrest ?nLLstep ?nLLmarks ?nLLoffsets ?nLLgoals ?pgRR ?hdRR ?poRR ?mkRR ?kcRR ?saRR ?nRR_base ?nRR_changes ?nRR_lanes
    (case aLL => k_is)
    (case aRR => k_is)
    (case a0 => k_is)
    (case l0 => k_is)
    (case c0 => k_is)
    (case k0 => k_is)
    (case a1 => k_is)
    (case l1 => k_is)
    (case c1 => k_is)
    (case k1 => k_is)
    (case a2 => k_is)
    (case l2 => k_is)
    (case c2 => k_is)
    (case k2 => k_is)
    (case a3 => k_is)
    (case l3 => k_is)
    (case c3 => k_is)
    (case k3 => k_is)
    (case a4 => k_is)
    (case l4 => k_is)
    (case c4 => k_is)
    (case k4 => k_is)
    (case a5 => k_is)
    (case l5 => k_is)
    (case c5 => k_is)
    (case k5 => k_is)
    (case a6 => k_is)
    (case l6 => k_is)
    (case lT6 => k_is)
    (case c6 => k_is)
    (case k6 => k_is)
    (case a7 => k_is)
    (case l7 => k_is)
    (case c7 => k_is)
    (case k7 => k_is)
    (case a8 => k_is)
    (case l8 => k_is)
    (case c8 => k_is)
    (case k8 => k_is)
    (case a9 => k_is)
    (case l9 => k_is)
    (case c9 => k_is)
    (case k9 => k_is)
    (case a10 => k_is)
    (case l10 => k_is)
    (case c10 => k_is)
    (case k10 => k_is)
    (case a11 => k_is)
    (case l11 => k_is)
    (case c11 => k_is)
    (case k11 => k_is)
    (case a12 => k_is)
    (case l12 => k_is)
    (case c12 => k_is)
    (case k12 => k_is)
    (case a13 => k_is)
    (case l13 => k_is)
    (case c13 => k_is)
    (case k13 => k_is)
    (case a14 => k_is)
    (case l14 => k_is)
    (case c14 => k_is)
    (case k14 => k_is)
    (case a15 => k_is)
    (case l15 => k_is)
    (case c15 => k_is)
    (case k15 => k_is)
    (case a16 => k_is)
    (case l16 => k_is)
    (case c16 => k_is)
    (case k16 => k_is)
    (case a17 => k_is)
    (case l17 => k_is)
    (case c17 => k_is)
    (case k17 => k_is)
    (case a18 => k_is)
    (case l18 => k_is)
    (case c18 => k_is)
    (case k18 => k_is)
    (case a19 => k_is)
    (case i19 => k_is)
    (case j19 => k_is)
    (case l19 => k_is)
    (case c19 => k_is)
    (case k19 => k_is)
    (case a20 => k_is)
    (case i20 => k_is)
    (case j20 => k_is)
    (case l20 => k_is)
    (case c20 => k_is)
    (case k20 => k_is)
    (case a21 => k_is)
    (case i21 => k_is)
    (case j21 => k_is)
    (case l21 => k_is)
    (case c21 => k_is)
    (case k21 => k_is)
    (case a22 => k_is)
    (case g22 => k_is)
    (case t22 => k_is)
    (case r22 => k_is)
    (case l22 => k_is)
    (case c22 => k_is)
    (case k22 => k_is)
    (case a23 => k_is)
    (case g23 => k_is)
    (case t23 => k_is)
    (case r23 => k_is)
    (case l23 => k_is)
    (case c23 => k_is)
    (case k23 => k_is)
    (case a24 => k_is)
    (case g24 => k_is)
    (case t24 => k_is)
    (case r24 => k_is)
    (case l24 => k_is)
    (case c24 => k_is)
    (case k24 => k_is)
    (case a25 => k_is)
    (case i25 => k_is)
    (case j25 => k_is)
    (case l25 => k_is)
    (case c25 => k_is)
    (case k25 => k_is)
    (case a26 => k_is)
    (case i26 => k_is)
    (case j26 => k_is)
    (case l26 => k_is)
    (case c26 => k_is)
    (case k26 => k_is)
    (case a27 => k_is)
    (case i27 => k_is)
    (case j27 => k_is)
    (case l27 => k_is)
    (case c27 => k_is)
    (case k27 => k_is)
    (case z_int => k_is)
    (case z_len => k_is)
    (case z_abs => k_is)
    (case z_max => k_is)
    (case z_min => k_is)
    (case z_range => k_is)
    (case z_repr => k_is)
    (case z_list => k_is)
    (case z_enumerate => k_is)
    (case z_sorted => k_is)
    (case q_GREATEST_WEEK => k_is)
    (case pgLL => k_is)
    (case hdLL => k_is)
    (case poLL => k_is)
    (case mkLL => k_is)
    (case kcLL => k_is)
    (case saLL => k_is)
    (case nLLrest => k_is)
    (case nLLstep => k_is)
    (case nLLmarks => k_is)
    (case nLLoffsets => k_is)
    (case nLLgoals => k_is)
    (case pgRR => k_is)
    (case hdRR => k_is)
    (case poRR => k_is)
    (case mkRR => k_is)
    (case kcRR => k_is)
    (case saRR => k_is)
    (case nRR_base => k_is)
    (case nRR_changes => k_is)
    (case nRR_lanes => k_is)

