import PyProof.Rows.All
import Wide.All
import OpenK.AllK
import Wide.FinOn
import KE.KStateDown
import Wide.Once
import HandS.ForExc
import HandS.Comp
import HandS.Dict
import HandS.More
import HandS.Wide
import HandS.Evl
import HandS.IsInst
import HandS.Defaults
import HandS.Head0
import HandS.Head1
import HandS.Head2
import HandS.HeadEnd
import HandS.HeadHook1
import HandS.HeadHook2
import HandS.HeadHook3
import HandS.HeadHook4
import KE.GoesEnumKw
import KE.KDictPairs
import HandS.ForMost
import HandS.Walk
import HandS.SortInts
import HandS.Sort
import HandS.WideBits
import HandS.Text
import HandS.Zip
import HandS.Iter
import HandS.TupAny
import HandS.Small
import PyProof.StrOps2
import KE.KxText
import HandS.Deep
import HandS.List
import PyProof.DictUpdate
import PySem.Challenge.RW_latepresses_k22_whole_meeting_and_lots
set_option Elab.async false
set_option linter.all false
set_option maxRecDepth 100000
set_option maxHeartbeats 0
namespace K22
open PySem PySem.Spec PyProof.Rows L2
def top (i : Nat) : Stmt := PySem.Challenge.pw_latepresses_k22_whole_meeting_and_lots.main.body.getD i (.Pass ⟨0, 0, 0, 0⟩)
abbrev s_meet : Stmt := top 7
abbrev s_moved : Stmt := top 8
abbrev s_extent : Stmt := top 14
abbrev s_block_counts : Stmt := top 15
abbrev s_signs_in : Stmt := top 16
abbrev s_is_clear : Stmt := top 17
abbrev s_is_held_up : Stmt := top 18
abbrev s_is_barred : Stmt := top 19
abbrev s_is_below : Stmt := top 20
abbrev s_is_whole : Stmt := top 26
abbrev s_is_between : Stmt := top 27
abbrev s_body_box : Stmt := top 29
abbrev s_has_trait : Stmt := top 30
abbrev s_is_fallen : Stmt := top 31
abbrev s_buckets_of : Stmt := top 33
abbrev s_meeting : Stmt := top 35
abbrev s_barring : Stmt := top 36
abbrev s_lot : Stmt := top 37
abbrev s_joining : Stmt := top 38
abbrev s_goes_along : Stmt := top 39
abbrev s_stands_on : Stmt := top 40
abbrev s_thing_in : Stmt := top 41
abbrev s_law_take : Stmt := top 45
abbrev s_law_box : Stmt := top 46
abbrev s_law_meet : Stmt := top 47
abbrev s_law_has : Stmt := top 48
abbrev s_law_size : Stmt := top 49
abbrev s_law_sign : Stmt := top 50
abbrev s_law_signs : Stmt := top 51
abbrev s_law_free : Stmt := top 52
abbrev s_law_stops : Stmt := top 53
abbrev s_law_blocks : Stmt := top 54
abbrev s_law_world : Stmt := top 55
abbrev s_law_look : Stmt := top 56
abbrev s_law_lot : Stmt := top 57
abbrev s_law_rest : Stmt := top 58
abbrev s_law_same : Stmt := top 59
abbrev s_law_rows : Stmt := top 60
abbrev s_law_kind : Stmt := top 61
abbrev s_law_spot : Stmt := top 62
abbrev s_law_fits : Stmt := top 63
abbrev s_law_things : Stmt := top 64
abbrev s_law_start : Stmt := top 65
abbrev s_law_game : Stmt := top 66
abbrev s_law_with_starts : Stmt := top 67
abbrev s_law_presses : Stmt := top 68
abbrev s_law_seen : Stmt := top 69
abbrev s_law_meeting : Stmt := top 70
abbrev s_law_lots : Stmt := top 71
abbrev s_law : Stmt := top 72
abbrev s_Looks_init : Stmt := inClass (top 43) 0
abbrev s_Looks_at : Stmt := inClass (top 43) 1
abbrev s_Looks_seen : Stmt := inClass (top 43) 2
abbrev FnQ (K : PySem.W.Frag) (x q : Str) (st : Stmt) (f : Addr) (fd : FuncData) : Prop := FunD K x q (defArgs st) (defBody st) (defScope st) [] [] f fd
def fdAt (K : PySem.W.Frag) (a : Addr) : FuncData := match K.lookup a with
  | some ⟨_, _, .func fd, _⟩ => fd
  | _ => PySem.W.fnOf "" "" (defArgs (top 0)) [] (defScope (top 0)) .none .none .none .none none .none .none
theorem fdAt_eq {K : PySem.W.Frag} {a : Addr} {x q : Str} {st : Stmt} {fd : FuncData} (F : FnQ K x q st a fd) : FnQ K x q st a (fdAt K a) := by
  obtain ⟨oc, od, dV, kV, doc, pm, an, cdv, ct, osl, e, lk, r⟩ := F.ex
  have h : fdAt K a = fd := by
    unfold fdAt
    rw [lk]
  rw [h]
  exact F
def d_meet : He.DefD := ⟨("meet", none), "meet", "meet", defArgs s_meet, defBody s_meet, defScope s_meet, [], []⟩
def d_moved : He.DefD := ⟨("moved", none), "moved", "moved", defArgs s_moved, defBody s_moved, defScope s_moved, [], []⟩
def d_extent : He.DefD := ⟨("extent", none), "extent", "extent", defArgs s_extent, defBody s_extent, defScope s_extent, [], []⟩
def d_block_counts : He.DefD := ⟨("block_counts", none), "block_counts", "block_counts", defArgs s_block_counts, defBody s_block_counts, defScope s_block_counts, [], []⟩
def d_signs_in : He.DefD := ⟨("signs_in", none), "signs_in", "signs_in", defArgs s_signs_in, defBody s_signs_in, defScope s_signs_in, [], []⟩
def d_is_clear : He.DefD := ⟨("is_clear", none), "is_clear", "is_clear", defArgs s_is_clear, defBody s_is_clear, defScope s_is_clear, [], []⟩
def d_is_held_up : He.DefD := ⟨("is_held_up", none), "is_held_up", "is_held_up", defArgs s_is_held_up, defBody s_is_held_up, defScope s_is_held_up, [], []⟩
def d_is_barred : He.DefD := ⟨("is_barred", none), "is_barred", "is_barred", defArgs s_is_barred, defBody s_is_barred, defScope s_is_barred, [], []⟩
def d_is_below : He.DefD := ⟨("is_below", none), "is_below", "is_below", defArgs s_is_below, defBody s_is_below, defScope s_is_below, [], []⟩
def d_is_whole : He.DefD := ⟨("is_whole", none), "is_whole", "is_whole", defArgs s_is_whole, defBody s_is_whole, defScope s_is_whole, [], []⟩
def d_is_between : He.DefD := ⟨("is_between", none), "is_between", "is_between", defArgs s_is_between, defBody s_is_between, defScope s_is_between, [], []⟩
def d_body_box : He.DefD := ⟨("body_box", none), "body_box", "body_box", defArgs s_body_box, defBody s_body_box, defScope s_body_box, [], []⟩
def d_has_trait : He.DefD := ⟨("has_trait", none), "has_trait", "has_trait", defArgs s_has_trait, defBody s_has_trait, defScope s_has_trait, [], []⟩
def d_is_fallen : He.DefD := ⟨("is_fallen", none), "is_fallen", "is_fallen", defArgs s_is_fallen, defBody s_is_fallen, defScope s_is_fallen, [], []⟩
def d_buckets_of : He.DefD := ⟨("buckets_of", none), "buckets_of", "buckets_of", defArgs s_buckets_of, defBody s_buckets_of, defScope s_buckets_of, [], []⟩
def d_meeting : He.DefD := ⟨("meeting", none), "meeting", "meeting", defArgs s_meeting, defBody s_meeting, defScope s_meeting, [], []⟩
def d_barring : He.DefD := ⟨("_barring", none), "_barring", "_barring", defArgs s_barring, defBody s_barring, defScope s_barring, [], []⟩
def d_lot : He.DefD := ⟨("lot", none), "lot", "lot", defArgs s_lot, defBody s_lot, defScope s_lot, [], []⟩
def d_joining : He.DefD := ⟨("_joining", none), "_joining", "_joining", defArgs s_joining, defBody s_joining, defScope s_joining, [], []⟩
def d_goes_along : He.DefD := ⟨("_goes_along", none), "_goes_along", "_goes_along", defArgs s_goes_along, defBody s_goes_along, defScope s_goes_along, [], []⟩
def d_stands_on : He.DefD := ⟨("stands_on", none), "stands_on", "stands_on", defArgs s_stands_on, defBody s_stands_on, defScope s_stands_on, [], []⟩
def d_thing_in : He.DefD := ⟨("_thing_in", none), "_thing_in", "_thing_in", defArgs s_thing_in, defBody s_thing_in, defScope s_thing_in, [], []⟩
def d_law_take : He.DefD := ⟨("_law_take", none), "_law_take", "_law_take", defArgs s_law_take, defBody s_law_take, defScope s_law_take, [], []⟩
def d_law_box : He.DefD := ⟨("_law_box", none), "_law_box", "_law_box", defArgs s_law_box, defBody s_law_box, defScope s_law_box, [], []⟩
def d_law_meet : He.DefD := ⟨("_law_meet", none), "_law_meet", "_law_meet", defArgs s_law_meet, defBody s_law_meet, defScope s_law_meet, [], []⟩
def d_law_has : He.DefD := ⟨("_law_has", none), "_law_has", "_law_has", defArgs s_law_has, defBody s_law_has, defScope s_law_has, [], []⟩
def d_law_size : He.DefD := ⟨("_law_size", none), "_law_size", "_law_size", defArgs s_law_size, defBody s_law_size, defScope s_law_size, [], []⟩
def d_law_sign : He.DefD := ⟨("_law_sign", none), "_law_sign", "_law_sign", defArgs s_law_sign, defBody s_law_sign, defScope s_law_sign, [], []⟩
def d_law_signs : He.DefD := ⟨("_law_signs", none), "_law_signs", "_law_signs", defArgs s_law_signs, defBody s_law_signs, defScope s_law_signs, [], []⟩
def d_law_free : He.DefD := ⟨("_law_free", none), "_law_free", "_law_free", defArgs s_law_free, defBody s_law_free, defScope s_law_free, [], []⟩
def d_law_stops : He.DefD := ⟨("_law_stops", none), "_law_stops", "_law_stops", defArgs s_law_stops, defBody s_law_stops, defScope s_law_stops, [], []⟩
def d_law_blocks : He.DefD := ⟨("_law_blocks", none), "_law_blocks", "_law_blocks", defArgs s_law_blocks, defBody s_law_blocks, defScope s_law_blocks, [], []⟩
def d_law_world : He.DefD := ⟨("_law_world", none), "_law_world", "_law_world", defArgs s_law_world, defBody s_law_world, defScope s_law_world, [], []⟩
def d_law_look : He.DefD := ⟨("_law_look", none), "_law_look", "_law_look", defArgs s_law_look, defBody s_law_look, defScope s_law_look, [], []⟩
def d_law_lot : He.DefD := ⟨("_law_lot", none), "_law_lot", "_law_lot", defArgs s_law_lot, defBody s_law_lot, defScope s_law_lot, [], []⟩
def d_law_rest : He.DefD := ⟨("_law_rest", none), "_law_rest", "_law_rest", defArgs s_law_rest, defBody s_law_rest, defScope s_law_rest, [], []⟩
def d_law_same : He.DefD := ⟨("_law_same", none), "_law_same", "_law_same", defArgs s_law_same, defBody s_law_same, defScope s_law_same, [], []⟩
def d_law_rows : He.DefD := ⟨("_law_rows", none), "_law_rows", "_law_rows", defArgs s_law_rows, defBody s_law_rows, defScope s_law_rows, [], []⟩
def d_law_kind : He.DefD := ⟨("_law_kind", none), "_law_kind", "_law_kind", defArgs s_law_kind, defBody s_law_kind, defScope s_law_kind, [], []⟩
def d_law_spot : He.DefD := ⟨("_law_spot", none), "_law_spot", "_law_spot", defArgs s_law_spot, defBody s_law_spot, defScope s_law_spot, [], []⟩
def d_law_fits : He.DefD := ⟨("_law_fits", none), "_law_fits", "_law_fits", defArgs s_law_fits, defBody s_law_fits, defScope s_law_fits, [], []⟩
def d_law_things : He.DefD := ⟨("_law_things", none), "_law_things", "_law_things", defArgs s_law_things, defBody s_law_things, defScope s_law_things, [], []⟩
def d_law_start : He.DefD := ⟨("_law_start", none), "_law_start", "_law_start", defArgs s_law_start, defBody s_law_start, defScope s_law_start, [], []⟩
def d_law_game : He.DefD := ⟨("_law_game", none), "_law_game", "_law_game", defArgs s_law_game, defBody s_law_game, defScope s_law_game, [], []⟩
def d_law_with_starts : He.DefD := ⟨("_law_with_starts", none), "_law_with_starts", "_law_with_starts", defArgs s_law_with_starts, defBody s_law_with_starts, defScope s_law_with_starts, [], []⟩
def d_law_presses : He.DefD := ⟨("_law_presses", none), "_law_presses", "_law_presses", defArgs s_law_presses, defBody s_law_presses, defScope s_law_presses, [], []⟩
def d_law_seen : He.DefD := ⟨("_law_seen", none), "_law_seen", "_law_seen", defArgs s_law_seen, defBody s_law_seen, defScope s_law_seen, [], []⟩
def d_law_meeting : He.DefD := ⟨("_law_meeting", none), "_law_meeting", "_law_meeting", defArgs s_law_meeting, defBody s_law_meeting, defScope s_law_meeting, [], []⟩
def d_law_lots : He.DefD := ⟨("_law_lots", none), "_law_lots", "_law_lots", defArgs s_law_lots, defBody s_law_lots, defScope s_law_lots, [], []⟩
def d_law : He.DefD := ⟨("law", none), "law", "law", defArgs s_law, defBody s_law, defScope s_law, [], []⟩
def d_Looks_init : He.DefD := ⟨("Looks", some "__init__"), "__init__", "Looks.__init__", defArgs s_Looks_init, defBody s_Looks_init, defScope s_Looks_init, [], []⟩
def d_Looks_at : He.DefD := ⟨("Looks", some "at"), "at", "Looks.at", defArgs s_Looks_at, defBody s_Looks_at, defScope s_Looks_at, [], []⟩
def d_Looks_seen : He.DefD := ⟨("Looks", some "seen"), "seen", "Looks.seen", defArgs s_Looks_seen, defBody s_Looks_seen, defScope s_Looks_seen, [], []⟩
def loose0 : List Str := ["meet", "moved", "extent", "block_counts", "signs_in", "is_clear", "is_held_up", "is_barred", "is_below", "is_whole", "is_between", "body_box", "has_trait", "is_fallen", "buckets_of", "meeting", "_barring", "lot", "_joining", "_goes_along", "stands_on", "_thing_in", "_law_take", "_law_box", "_law_meet", "_law_has", "_law_size", "_law_sign", "_law_signs", "_law_free"]
def loose1 : List Str := ["_law_stops", "_law_blocks", "_law_world", "_law_look", "_law_lot", "_law_rest", "_law_same", "_law_rows", "_law_kind", "_law_spot", "_law_fits", "_law_things", "_law_start", "_law_game", "_law_with_starts", "_law_presses", "_law_seen", "_law_meeting", "_law_lots", "GameError", "InvalidSlot", "InvalidCell", "InvalidPair", "Looks", "DIRECTIONS", "SQUARE", "BLOCK_SQUARES", "BLOCK", "WALLS", "SLOTS"]
def loose2 : List Str := ["BUCKET", "ON_THE_FLOOR", "IN_THE_AIR"]
def loose : List Str := loose0 ++ loose1 ++ loose2
def fn : List He.DefD := [d_meet, d_moved, d_extent, d_block_counts, d_signs_in, d_is_clear, d_is_held_up, d_is_barred, d_is_below, d_is_whole, d_is_between, d_body_box, d_has_trait, d_is_fallen, d_buckets_of, d_meeting, d_barring, d_lot, d_joining, d_goes_along, d_stands_on, d_thing_in, d_law_take, d_law_box, d_law_meet, d_law_has, d_law_size, d_law_sign, d_law_signs, d_law_free, d_law_stops, d_law_blocks, d_law_world, d_law_look, d_law_lot, d_law_rest, d_law_same, d_law_rows, d_law_kind, d_law_spot, d_law_fits, d_law_things, d_law_start, d_law_game, d_law_with_starts, d_law_presses, d_law_seen, d_law_meeting, d_law_lots, d_law, d_Looks_init, d_Looks_at, d_Looks_seen]
def fa : List He.Fa := [.glo "meet", .glo "moved", .glo "extent", .glo "block_counts", .glo "signs_in", .glo "is_clear", .glo "is_held_up", .glo "is_barred", .glo "is_below", .glo "is_whole", .glo "is_between", .glo "body_box", .glo "has_trait", .glo "is_fallen", .glo "buckets_of", .glo "meeting", .glo "_barring", .glo "lot", .glo "_joining", .glo "_goes_along", .glo "stands_on", .glo "_thing_in", .glo "_law_take", .glo "_law_box", .glo "_law_meet", .glo "_law_has", .glo "_law_size", .glo "_law_sign", .glo "_law_signs", .glo "_law_free", .glo "_law_stops", .glo "_law_blocks", .glo "_law_world", .glo "_law_look", .glo "_law_lot", .glo "_law_rest", .glo "_law_same", .glo "_law_rows", .glo "_law_kind", .glo "_law_spot", .glo "_law_fits", .glo "_law_things", .glo "_law_start", .glo "_law_game", .glo "_law_with_starts", .glo "_law_presses", .glo "_law_seen", .glo "_law_meeting", .glo "_law_lots", .glo "law", .free "len", .free "int", .free "isinstance", .free "range", .free "all", .free "any", .free "min", .free "max", .free "bool", .free "tuple", .free "list", .free "sorted", .free "zip", .free "ValueError", .free "repr", .glo "DIRECTIONS", .int "SQUARE" 8, .int "BLOCK_SQUARES" 4, .int "BLOCK" 32, .str "WALLS" "#<>", .int "SLOTS" 16, .int "BUCKET" 49, .int "ON_THE_FLOOR" (-1), .int "IN_THE_AIR" (-2), .glo "GameError", .glo "InvalidSlot", .glo "InvalidCell", .glo "InvalidPair", .glo "Looks", .cls "Looks", .mkr "Looks", .noat "Looks" "_world", .noat "Looks" "_looked", .meth "Looks" "at", .meth "Looks" "seen"]
def tupA (K : PySem.W.Frag) (a : Addr) (vs : List He.Dv) : Bool := match K.lookup a with
  | some ⟨.type c, _, .seq its _, _⟩ => decide (c = "tuple") && (decide (its.size ≤ sizeLine) && He.relAll (vs.map (He.Dv.v K)) its.toList)
  | _ => false
theorem tupA_ok {K : PySem.W.Frag} {a : Addr} {vs : List He.Dv} (h : tupA K a vs = true) (H : Hp) : SqT K H a (vs.map (He.Dv.v K)) := by
  unfold tupA at h
  split at h
  · rename_i c dd its n sl q
    obtain ⟨h1, h2⟩ := He.ba h
    obtain ⟨h3, h4⟩ := He.ba h2
    exact .inr ⟨_, its, n, q, congrArg Value.type (of_decide_eq_true h1), rfl, of_decide_eq_true h3, He.relAll_ok h4⟩
  · cases h
/-- where a written dict's value lies -/
def dtA (K : PySem.W.Frag) (x k : Str) : Addr := match PySem.W.nsIn K (He.ga K x) k with
  | some (some (.ref a)) => a
  | _ => 0
def dtB (K : PySem.W.Frag) (x : Str) (q : Str × List He.Dv) : Bool := decide (PySem.W.nsIn K (He.ga K x) q.1 = some (some (.ref (dtA K x q.1)))) && tupA K (dtA K x q.1) q.2
def tabs : List He.Tab := []
/-- the four directions, as they lie -/
def dirA (K : PySem.W.Frag) (i : Nat) : Addr := match K.lookup (He.ga K "DIRECTIONS") with
  | some ⟨_, _, .seq its _, _⟩ => (match its[i]? with
    | some (.ref a) => a
    | _ => 0)
  | _ => 0
def dirV (K : PySem.W.Frag) : List V := [.ref (dirA K 0), .ref (dirA K 1), .ref (dirA K 2), .ref (dirA K 3)]
def dirB (K : PySem.W.Frag) : Bool := (match K.lookup (He.ga K "DIRECTIONS") with
  | some ⟨.type c, _, .seq its _, _⟩ => decide (c = "tuple") && (decide (its.size ≤ sizeLine) && He.relAll (dirV K) its.toList)
  | _ => false) && (tupA K (dirA K 0) [.int (-1), .int 0] && (tupA K (dirA K 1) [.int 1, .int 0] && (tupA K (dirA K 2) [.int 0, .int (-1)] && tupA K (dirA K 3) [.int 0, .int 1])))
def exs (K : PySem.W.Frag) : Bool := dirB K && (true)
abbrev R : PySem.W.OpenRow := PySem.W.OpenLaw.row PySem.Challenge.rw_latepresses_k22_whole_meeting_and_lots
def refs1 (g : Addr → Option Obj) (a : Addr) : List Addr := match g a with
  | some o => He.refsD o
  | none => []
def nsOf (g : Addr → Option Obj) (x : Str) : List Addr := match g (He.ga (He.frG g [mainGlobals]) x) with
  | some ⟨_, _, .cls cd, _⟩ => [cd.ns]
  | _ => []
def asC (g : Addr → Option Obj) : List Addr :=
  let l := (["GameError", "Looks"] : List Str).flatMap fun x => (nsOf g x).flatMap fun n => refs1 g n
  He.asD g 2 ++ (l ++ l.flatMap (refs1 g))
def KC (g : Addr → Option Obj) : PySem.W.Frag := He.frT g (asC g)
theorem saysC {w : World} {h : Heap} {K : PySem.W.Frag} (e : (He.obsT fa fn tabs K, exs K && true) = He.valX fn tabs w) : He.SaysX fa fn tabs [] exs w h K :=
  ⟨congrArg Prod.fst e, by have e2 : (exs K && true) = true := congrArg Prod.snd e; rw [Bool.and_true] at e2; exact e2, (fun p hp => nomatch hp), (fun p hp => nomatch hp), (fun p hp => nomatch hp)⟩
def obC (s : Shared) : He.AlX := (He.obsT fa fn tabs (KC s.heap.get?), exs (KC s.heap.get?) && true)
def saC (w : World) (h : Heap) : Prop := ∃ K, PySem.W.Frag.In K h ∧ He.SaysX fa fn tabs [] exs w h K
theorem ofC (w : World) (s : Shared) (e : obC s = He.valX fn tabs w) : saC w s.heap := ⟨KC s.heap.get?, He.frT_in, saysC e⟩
theorem keC : ∀ (w : World) (h h' : Heap), saC w h → (∀ (b : Addr) (o : Obj), h.get? b = some o → h'.get? b = some o) → saC w h' := (He.hookX 0 fa fn tabs [] exs).keeps
def hk : PySem.W.Hook := ⟨He.AlX, obC, fun w => He.valX fn tabs w, saC, ofC, keC⟩
def ob (s : PySem.W.SharedT) : He.AlX := (He.obsT fa fn tabs (KC (HandSHeadRun.getT s)), exs (KC (HandSHeadRun.getT s)) && true)
theorem ob_eq (s : PySem.W.SharedT) : ob s = hk.obs s.abs := by
  have e : HandSHeadRun.getT s = s.abs.heap.get? := funext (HandSHeadRun.getT_eq s)
  unfold ob
  rw [e]
  rfl
theorem mapAnd {α : Type _} {X : Option α} {f g : α → Bool} (h1 : X.map f = some true) (h2 : X.map g = some true) : X.map (fun s => f s && g s) = some true := by
  cases X with
  | none => cases h1
  | some x =>
    have e1 : f x = true := Option.some.inj h1
    have e2 : g x = true := Option.some.inj h2
    show some (f x && g x) = some true
    rw [e1, e2]
    rfl
theorem mapFst {α β γ : Type _} {X : Option α} {f : α → β} {g : α → γ} {a : β} {b : γ} (h : X.map (fun s => (f s, g s)) = some (a, b)) : X.map f = some a := by
  cases X with
  | none => cases h
  | some x => exact congrArg some (congrArg Prod.fst (Option.some.inj h))
theorem mapSnd {α β γ : Type _} {X : Option α} {f : α → β} {g : α → γ} {a : β} {b : γ} (h : X.map (fun s => (f s, g s)) = some (a, b)) : X.map g = some b := by
  cases X with
  | none => cases h
  | some x => exact congrArg some (congrArg Prod.snd (Option.some.inj h))
theorem map2p {α β γ : Type _} {X : Option α} {f : α → β × γ} {v : β × γ} (h1 : X.map (fun s => (f s).1) = some v.1) (h2 : X.map (fun s => (f s).2) = some v.2) : X.map f = some v := by
  cases X with
  | none => cases h1
  | some x =>
    have e1 : (f x).1 = v.1 := Option.some.inj h1
    have e2 : (f x).2 = v.2 := Option.some.inj h2
    exact congrArg some (Prod.ext e1 e2)
theorem map3 {α β γ δ : Type _} {X : Option α} {f : α → β} {g : α → γ} {h : α → δ} {a : β} {b : γ} {c : δ} (h1 : X.map f = some a) (h2 : X.map g = some b) (h3 : X.map h = some c) : X.map (fun s => (f s, g s, h s)) = some (a, b, c) := by
  cases X with
  | none => cases h1
  | some x =>
    cases h1
    cases h2
    cases h3
    rfl
theorem run0o (w : World) (os : OsState) : (HandSHeadRun.endF (HandSHeadRun.stepQ (HandSHeadRun.denQ HandSHeadRun.tabQ) R.prog (w.withFollow "special-get-raises" false)) 40000 R.prog (w.withFollow "special-get-raises" false) os).map (fun s => ob s) = some (hk.val (w.withFollow "special-get-raises" false)) := by
  kernel_rfl
theorem run0ab (w : World) (os : OsState) : (HandSHeadRun.endF (HandSHeadRun.stepQ (HandSHeadRun.denQ HandSHeadRun.tabQ) R.prog (w.withFollow "special-get-raises" false)) 40000 R.prog (w.withFollow "special-get-raises" false) os).map (fun s => (HandSHeadRun.looksF R.prog (PySem.W.boot_heap (w.withFollow "special-get-raises" false).params) s.abs, HandSHeadRun.seenQ (PySem.W.view R.prog [72]) loose (importedModules R.prog.main.body) (fun s => PySem.W.xlAt (PySem.W.view R.prog [72]) [] s && PySem.W.recOk R.toRowW.records s) s.abs)) = some (true, PySem.W.openGood (PySem.W.view R.prog [72]) loose) := by
  kernel_rfl
theorem run0 (w : World) : HandSHeadRun.RunEq R (PySem.W.view R.prog [72]) hk ob 40000 loose (w.withFollow "special-get-raises" false) := fun os => map3 (mapFst (run0ab w os)) (mapSnd (run0ab w os)) (run0o w os)
theorem run1o (w : World) (os : OsState) : (HandSHeadRun.endF (HandSHeadRun.stepQ (HandSHeadRun.denQ HandSHeadRun.tabQ) R.prog (w.withFollow "special-get-raises" true)) 40000 R.prog (w.withFollow "special-get-raises" true) os).map (fun s => ob s) = some (hk.val (w.withFollow "special-get-raises" true)) := by
  kernel_rfl
theorem run1ab (w : World) (os : OsState) : (HandSHeadRun.endF (HandSHeadRun.stepQ (HandSHeadRun.denQ HandSHeadRun.tabQ) R.prog (w.withFollow "special-get-raises" true)) 40000 R.prog (w.withFollow "special-get-raises" true) os).map (fun s => (HandSHeadRun.looksF R.prog (PySem.W.boot_heap (w.withFollow "special-get-raises" true).params) s.abs, HandSHeadRun.seenQ (PySem.W.view R.prog [72]) loose (importedModules R.prog.main.body) (fun s => PySem.W.xlAt (PySem.W.view R.prog [72]) [] s && PySem.W.recOk R.toRowW.records s) s.abs)) = some (true, PySem.W.openGood (PySem.W.view R.prog [72]) loose) := by
  kernel_rfl
theorem run1 (w : World) : HandSHeadRun.RunEq R (PySem.W.view R.prog [72]) hk ob 40000 loose (w.withFollow "special-get-raises" true) := fun os => map3 (mapFst (run1ab w os)) (mapSnd (run1ab w os)) (run1o w os)
theorem run (w : World) : HandSHeadRun.RunEq R (PySem.W.view R.prog [72]) hk ob 40000 loose w :=
  PySem.W.byRow2 "special-get-raises" (P := fun w => HandSHeadRun.RunEq R (PySem.W.view R.prog [72]) hk ob 40000 loose w) run0 run1 w
structure Txt (K : PySem.W.Frag) (w : World) (mg : Str → Option Value) : Prop where
  F_meet : FnQ K "meet" "meet" s_meet (He.fAd K ("meet", none)) (fdAt K (He.fAd K ("meet", none)))
  b_meet : Binds K (fdAt K (He.fAd K ("meet", none))) ["one", "other"] []
  F_moved : FnQ K "moved" "moved" s_moved (He.fAd K ("moved", none)) (fdAt K (He.fAd K ("moved", none)))
  b_moved : Binds K (fdAt K (He.fAd K ("moved", none))) ["box", "dx", "dy"] []
  F_extent : FnQ K "extent" "extent" s_extent (He.fAd K ("extent", none)) (fdAt K (He.fAd K ("extent", none)))
  b_extent : Binds K (fdAt K (He.fAd K ("extent", none))) ["level"] []
  F_block_counts : FnQ K "block_counts" "block_counts" s_block_counts (He.fAd K ("block_counts", none)) (fdAt K (He.fAd K ("block_counts", none)))
  b_block_counts : Binds K (fdAt K (He.fAd K ("block_counts", none))) ["level"] []
  F_signs_in : FnQ K "signs_in" "signs_in" s_signs_in (He.fAd K ("signs_in", none)) (fdAt K (He.fAd K ("signs_in", none)))
  b_signs_in : Binds K (fdAt K (He.fAd K ("signs_in", none))) ["level", "box"] []
  F_is_clear : FnQ K "is_clear" "is_clear" s_is_clear (He.fAd K ("is_clear", none)) (fdAt K (He.fAd K ("is_clear", none)))
  b_is_clear : Binds K (fdAt K (He.fAd K ("is_clear", none))) ["level", "box"] []
  F_is_held_up : FnQ K "is_held_up" "is_held_up" s_is_held_up (He.fAd K ("is_held_up", none)) (fdAt K (He.fAd K ("is_held_up", none)))
  b_is_held_up : Binds K (fdAt K (He.fAd K ("is_held_up", none))) ["level", "box"] []
  F_is_barred : FnQ K "is_barred" "is_barred" s_is_barred (He.fAd K ("is_barred", none)) (fdAt K (He.fAd K ("is_barred", none)))
  b_is_barred : Binds K (fdAt K (He.fAd K ("is_barred", none))) ["level", "box", "dx", "dy"] []
  F_is_below : FnQ K "is_below" "is_below" s_is_below (He.fAd K ("is_below", none)) (fdAt K (He.fAd K ("is_below", none)))
  b_is_below : Binds K (fdAt K (He.fAd K ("is_below", none))) ["level", "box"] []
  F_is_whole : FnQ K "is_whole" "is_whole" s_is_whole (He.fAd K ("is_whole", none)) (fdAt K (He.fAd K ("is_whole", none)))
  b_is_whole : Binds K (fdAt K (He.fAd K ("is_whole", none))) ["told"] []
  F_is_between : FnQ K "is_between" "is_between" s_is_between (He.fAd K ("is_between", none)) (fdAt K (He.fAd K ("is_between", none)))
  b_is_between : Binds K (fdAt K (He.fAd K ("is_between", none))) ["told", "low", "high"] []
  F_body_box : FnQ K "body_box" "body_box" s_body_box (He.fAd K ("body_box", none)) (fdAt K (He.fAd K ("body_box", none)))
  b_body_box : Binds K (fdAt K (He.fAd K ("body_box", none))) ["game", "thing"] []
  F_has_trait : FnQ K "has_trait" "has_trait" s_has_trait (He.fAd K ("has_trait", none)) (fdAt K (He.fAd K ("has_trait", none)))
  b_has_trait : Binds K (fdAt K (He.fAd K ("has_trait", none))) ["game", "thing", "trait"] []
  F_is_fallen : FnQ K "is_fallen" "is_fallen" s_is_fallen (He.fAd K ("is_fallen", none)) (fdAt K (He.fAd K ("is_fallen", none)))
  b_is_fallen : Binds K (fdAt K (He.fAd K ("is_fallen", none))) ["game", "thing"] []
  F_buckets_of : FnQ K "buckets_of" "buckets_of" s_buckets_of (He.fAd K ("buckets_of", none)) (fdAt K (He.fAd K ("buckets_of", none)))
  b_buckets_of : Binds K (fdAt K (He.fAd K ("buckets_of", none))) ["game", "box"] []
  F_meeting : FnQ K "meeting" "meeting" s_meeting (He.fAd K ("meeting", none)) (fdAt K (He.fAd K ("meeting", none)))
  b_meeting : Binds K (fdAt K (He.fAd K ("meeting", none))) ["game", "looks", "box", "but"] []
  F_barring : FnQ K "_barring" "_barring" s_barring (He.fAd K ("_barring", none)) (fdAt K (He.fAd K ("_barring", none)))
  b_barring : Binds K (fdAt K (He.fAd K ("_barring", none))) ["game", "looks", "box", "but"] []
  F_lot : FnQ K "lot" "lot" s_lot (He.fAd K ("lot", none)) (fdAt K (He.fAd K ("lot", none)))
  b_lot : Binds K (fdAt K (He.fAd K ("lot", none))) ["game", "looks", "slot", "dx", "dy"] []
  F_joining : FnQ K "_joining" "_joining" s_joining (He.fAd K ("_joining", none)) (fdAt K (He.fAd K ("_joining", none)))
  b_joining : Binds K (fdAt K (He.fAd K ("_joining", none))) ["game", "looks", "going", "slot", "dx", "dy"] []
  F_goes_along : FnQ K "_goes_along" "_goes_along" s_goes_along (He.fAd K ("_goes_along", none)) (fdAt K (He.fAd K ("_goes_along", none)))
  b_goes_along : Binds K (fdAt K (He.fAd K ("_goes_along", none))) ["game", "thing", "dy"] []
  F_stands_on : FnQ K "stands_on" "stands_on" s_stands_on (He.fAd K ("stands_on", none)) (fdAt K (He.fAd K ("stands_on", none)))
  b_stands_on : Binds K (fdAt K (He.fAd K ("stands_on", none))) ["game", "looks", "slot"] []
  F_thing_in : FnQ K "_thing_in" "_thing_in" s_thing_in (He.fAd K ("_thing_in", none)) (fdAt K (He.fAd K ("_thing_in", none)))
  b_thing_in : Binds K (fdAt K (He.fAd K ("_thing_in", none))) ["looks", "slot"] []
  F_law_take : FnQ K "_law_take" "_law_take" s_law_take (He.fAd K ("_law_take", none)) (fdAt K (He.fAd K ("_law_take", none)))
  b_law_take : Binds K (fdAt K (He.fAd K ("_law_take", none))) ["pot", "many"] []
  F_law_box : FnQ K "_law_box" "_law_box" s_law_box (He.fAd K ("_law_box", none)) (fdAt K (He.fAd K ("_law_box", none)))
  b_law_box : Binds K (fdAt K (He.fAd K ("_law_box", none))) ["game", "thing"] []
  F_law_meet : FnQ K "_law_meet" "_law_meet" s_law_meet (He.fAd K ("_law_meet", none)) (fdAt K (He.fAd K ("_law_meet", none)))
  b_law_meet : Binds K (fdAt K (He.fAd K ("_law_meet", none))) ["one", "other"] []
  F_law_has : FnQ K "_law_has" "_law_has" s_law_has (He.fAd K ("_law_has", none)) (fdAt K (He.fAd K ("_law_has", none)))
  b_law_has : Binds K (fdAt K (He.fAd K ("_law_has", none))) ["game", "thing", "trait"] []
  F_law_size : FnQ K "_law_size" "_law_size" s_law_size (He.fAd K ("_law_size", none)) (fdAt K (He.fAd K ("_law_size", none)))
  b_law_size : Binds K (fdAt K (He.fAd K ("_law_size", none))) ["game"] []
  F_law_sign : FnQ K "_law_sign" "_law_sign" s_law_sign (He.fAd K ("_law_sign", none)) (fdAt K (He.fAd K ("_law_sign", none)))
  b_law_sign : Binds K (fdAt K (He.fAd K ("_law_sign", none))) ["game", "x", "y"] []
  F_law_signs : FnQ K "_law_signs" "_law_signs" s_law_signs (He.fAd K ("_law_signs", none)) (fdAt K (He.fAd K ("_law_signs", none)))
  b_law_signs : Binds K (fdAt K (He.fAd K ("_law_signs", none))) ["game", "box"] []
  F_law_free : FnQ K "_law_free" "_law_free" s_law_free (He.fAd K ("_law_free", none)) (fdAt K (He.fAd K ("_law_free", none)))
  b_law_free : Binds K (fdAt K (He.fAd K ("_law_free", none))) ["game", "box"] []
  F_law_stops : FnQ K "_law_stops" "_law_stops" s_law_stops (He.fAd K ("_law_stops", none)) (fdAt K (He.fAd K ("_law_stops", none)))
  b_law_stops : Binds K (fdAt K (He.fAd K ("_law_stops", none))) ["game", "box", "dx", "dy"] []
  F_law_blocks : FnQ K "_law_blocks" "_law_blocks" s_law_blocks (He.fAd K ("_law_blocks", none)) (fdAt K (He.fAd K ("_law_blocks", none)))
  b_law_blocks : Binds K (fdAt K (He.fAd K ("_law_blocks", none))) ["game", "box"] []
  F_law_world : FnQ K "_law_world" "_law_world" s_law_world (He.fAd K ("_law_world", none)) (fdAt K (He.fAd K ("_law_world", none)))
  b_law_world : Binds K (fdAt K (He.fAd K ("_law_world", none))) ["game", "w"] []
  F_law_look : FnQ K "_law_look" "_law_look" s_law_look (He.fAd K ("_law_look", none)) (fdAt K (He.fAd K ("_law_look", none)))
  b_law_look : Binds K (fdAt K (He.fAd K ("_law_look", none))) ["game", "w", "seen", "box", "but"] []
  F_law_lot : FnQ K "_law_lot" "_law_lot" s_law_lot (He.fAd K ("_law_lot", none)) (fdAt K (He.fAd K ("_law_lot", none)))
  b_law_lot : Binds K (fdAt K (He.fAd K ("_law_lot", none))) ["game", "w", "seen", "slot", "dx", "dy"] []
  F_law_rest : FnQ K "_law_rest" "_law_rest" s_law_rest (He.fAd K ("_law_rest", none)) (fdAt K (He.fAd K ("_law_rest", none)))
  b_law_rest : Binds K (fdAt K (He.fAd K ("_law_rest", none))) ["game", "w", "seen", "slot"] []
  F_law_same : FnQ K "_law_same" "_law_same" s_law_same (He.fAd K ("_law_same", none)) (fdAt K (He.fAd K ("_law_same", none)))
  b_law_same : Binds K (fdAt K (He.fAd K ("_law_same", none))) ["one", "other"] []
  F_law_rows : FnQ K "_law_rows" "_law_rows" s_law_rows (He.fAd K ("_law_rows", none)) (fdAt K (He.fAd K ("_law_rows", none)))
  b_law_rows : Binds K (fdAt K (He.fAd K ("_law_rows", none))) ["pot", "high", "wide"] []
  F_law_kind : FnQ K "_law_kind" "_law_kind" s_law_kind (He.fAd K ("_law_kind", none)) (fdAt K (He.fAd K ("_law_kind", none)))
  b_law_kind : Binds K (fdAt K (He.fAd K ("_law_kind", none))) ["pot", "k", "rules"] []
  F_law_spot : FnQ K "_law_spot" "_law_spot" s_law_spot (He.fAd K ("_law_spot", none)) (fdAt K (He.fAd K ("_law_spot", none)))
  b_law_spot : Binds K (fdAt K (He.fAd K ("_law_spot", none))) ["pot", "game", "things", "kind"] []
  F_law_fits : FnQ K "_law_fits" "_law_fits" s_law_fits (He.fAd K ("_law_fits", none)) (fdAt K (He.fAd K ("_law_fits", none)))
  b_law_fits : Binds K (fdAt K (He.fAd K ("_law_fits", none))) ["game", "things", "kind", "x", "y"] []
  F_law_things : FnQ K "_law_things" "_law_things" s_law_things (He.fAd K ("_law_things", none)) (fdAt K (He.fAd K ("_law_things", none)))
  b_law_things : Binds K (fdAt K (He.fAd K ("_law_things", none))) ["pot", "game", "many"] []
  F_law_start : FnQ K "_law_start" "_law_start" s_law_start (He.fAd K ("_law_start", none)) (fdAt K (He.fAd K ("_law_start", none)))
  b_law_start : Binds K (fdAt K (He.fAd K ("_law_start", none))) ["pot", "game", "many"] []
  F_law_game : FnQ K "_law_game" "_law_game" s_law_game (He.fAd K ("_law_game", none)) (fdAt K (He.fAd K ("_law_game", none)))
  b_law_game : Binds K (fdAt K (He.fAd K ("_law_game", none))) ["pot", "kinds", "great"] []
  F_law_with_starts : FnQ K "_law_with_starts" "_law_with_starts" s_law_with_starts (He.fAd K ("_law_with_starts", none)) (fdAt K (He.fAd K ("_law_with_starts", none)))
  b_law_with_starts : Binds K (fdAt K (He.fAd K ("_law_with_starts", none))) ["pot", "game", "w"] []
  F_law_presses : FnQ K "_law_presses" "_law_presses" s_law_presses (He.fAd K ("_law_presses", none)) (fdAt K (He.fAd K ("_law_presses", none)))
  b_law_presses : Binds K (fdAt K (He.fAd K ("_law_presses", none))) ["pot", "game"] []
  F_law_seen : FnQ K "_law_seen" "_law_seen" s_law_seen (He.fAd K ("_law_seen", none)) (fdAt K (He.fAd K ("_law_seen", none)))
  b_law_seen : Binds K (fdAt K (He.fAd K ("_law_seen", none))) ["world", "seen"] []
  F_law_meeting : FnQ K "_law_meeting" "_law_meeting" s_law_meeting (He.fAd K ("_law_meeting", none)) (fdAt K (He.fAd K ("_law_meeting", none)))
  b_law_meeting : Binds K (fdAt K (He.fAd K ("_law_meeting", none))) ["pot", "game", "w", "world", "eyes", "known"] []
  F_law_lots : FnQ K "_law_lots" "_law_lots" s_law_lots (He.fAd K ("_law_lots", none)) (fdAt K (He.fAd K ("_law_lots", none)))
  b_law_lots : Binds K (fdAt K (He.fAd K ("_law_lots", none))) ["pot", "game", "w", "world", "slot", "eyes", "known"] []
  F_law : FnQ K "law" "law" s_law (He.fAd K ("law", none)) (fdAt K (He.fAd K ("law", none)))
  b_law : Binds K (fdAt K (He.fAd K ("law", none))) ["script"] []
  F_Looks_init : FnQ K "__init__" "Looks.__init__" s_Looks_init (He.fAd K ("Looks", some "__init__")) (fdAt K (He.fAd K ("Looks", some "__init__")))
  b_Looks_init : Binds K (fdAt K (He.fAd K ("Looks", some "__init__"))) ["self", "world"] []
  F_Looks_at : FnQ K "at" "Looks.at" s_Looks_at (He.fAd K ("Looks", some "at")) (fdAt K (He.fAd K ("Looks", some "at")))
  b_Looks_at : Binds K (fdAt K (He.fAd K ("Looks", some "at"))) ["self", "cell"] []
  F_Looks_seen : FnQ K "seen" "Looks.seen" s_Looks_seen (He.fAd K ("Looks", some "seen")) (fdAt K (He.fAd K ("Looks", some "seen")))
  b_Looks_seen : Binds K (fdAt K (He.fAd K ("Looks", some "seen"))) ["self"] []
  g_meet : mg "meet" = some (.ref (He.ga K "meet"))
  g_moved : mg "moved" = some (.ref (He.ga K "moved"))
  g_extent : mg "extent" = some (.ref (He.ga K "extent"))
  g_block_counts : mg "block_counts" = some (.ref (He.ga K "block_counts"))
  g_signs_in : mg "signs_in" = some (.ref (He.ga K "signs_in"))
  g_is_clear : mg "is_clear" = some (.ref (He.ga K "is_clear"))
  g_is_held_up : mg "is_held_up" = some (.ref (He.ga K "is_held_up"))
  g_is_barred : mg "is_barred" = some (.ref (He.ga K "is_barred"))
  g_is_below : mg "is_below" = some (.ref (He.ga K "is_below"))
  g_is_whole : mg "is_whole" = some (.ref (He.ga K "is_whole"))
  g_is_between : mg "is_between" = some (.ref (He.ga K "is_between"))
  g_body_box : mg "body_box" = some (.ref (He.ga K "body_box"))
  g_has_trait : mg "has_trait" = some (.ref (He.ga K "has_trait"))
  g_is_fallen : mg "is_fallen" = some (.ref (He.ga K "is_fallen"))
  g_buckets_of : mg "buckets_of" = some (.ref (He.ga K "buckets_of"))
  g_meeting : mg "meeting" = some (.ref (He.ga K "meeting"))
  g_barring : mg "_barring" = some (.ref (He.ga K "_barring"))
  g_lot : mg "lot" = some (.ref (He.ga K "lot"))
  g_joining : mg "_joining" = some (.ref (He.ga K "_joining"))
  g_goes_along : mg "_goes_along" = some (.ref (He.ga K "_goes_along"))
  g_stands_on : mg "stands_on" = some (.ref (He.ga K "stands_on"))
  g_thing_in : mg "_thing_in" = some (.ref (He.ga K "_thing_in"))
  g_law_take : mg "_law_take" = some (.ref (He.ga K "_law_take"))
  g_law_box : mg "_law_box" = some (.ref (He.ga K "_law_box"))
  g_law_meet : mg "_law_meet" = some (.ref (He.ga K "_law_meet"))
  g_law_has : mg "_law_has" = some (.ref (He.ga K "_law_has"))
  g_law_size : mg "_law_size" = some (.ref (He.ga K "_law_size"))
  g_law_sign : mg "_law_sign" = some (.ref (He.ga K "_law_sign"))
  g_law_signs : mg "_law_signs" = some (.ref (He.ga K "_law_signs"))
  g_law_free : mg "_law_free" = some (.ref (He.ga K "_law_free"))
  g_law_stops : mg "_law_stops" = some (.ref (He.ga K "_law_stops"))
  g_law_blocks : mg "_law_blocks" = some (.ref (He.ga K "_law_blocks"))
  g_law_world : mg "_law_world" = some (.ref (He.ga K "_law_world"))
  g_law_look : mg "_law_look" = some (.ref (He.ga K "_law_look"))
  g_law_lot : mg "_law_lot" = some (.ref (He.ga K "_law_lot"))
  g_law_rest : mg "_law_rest" = some (.ref (He.ga K "_law_rest"))
  g_law_same : mg "_law_same" = some (.ref (He.ga K "_law_same"))
  g_law_rows : mg "_law_rows" = some (.ref (He.ga K "_law_rows"))
  g_law_kind : mg "_law_kind" = some (.ref (He.ga K "_law_kind"))
  g_law_spot : mg "_law_spot" = some (.ref (He.ga K "_law_spot"))
  g_law_fits : mg "_law_fits" = some (.ref (He.ga K "_law_fits"))
  g_law_things : mg "_law_things" = some (.ref (He.ga K "_law_things"))
  g_law_start : mg "_law_start" = some (.ref (He.ga K "_law_start"))
  g_law_game : mg "_law_game" = some (.ref (He.ga K "_law_game"))
  g_law_with_starts : mg "_law_with_starts" = some (.ref (He.ga K "_law_with_starts"))
  g_law_presses : mg "_law_presses" = some (.ref (He.ga K "_law_presses"))
  g_law_seen : mg "_law_seen" = some (.ref (He.ga K "_law_seen"))
  g_law_meeting : mg "_law_meeting" = some (.ref (He.ga K "_law_meeting"))
  g_law_lots : mg "_law_lots" = some (.ref (He.ga K "_law_lots"))
  g_law : mg "law" = some (.ref (He.ga K "law"))
  n_len : mg "len" = none
  n_int : mg "int" = none
  n_isinstance : mg "isinstance" = none
  n_range : mg "range" = none
  n_all : mg "all" = none
  n_any : mg "any" = none
  n_min : mg "min" = none
  n_max : mg "max" = none
  n_bool : mg "bool" = none
  n_tuple : mg "tuple" = none
  n_list : mg "list" = none
  n_sorted : mg "sorted" = none
  n_zip : mg "zip" = none
  n_ValueError : mg "ValueError" = none
  n_repr : mg "repr" = none
  g_DIRECTIONS : mg "DIRECTIONS" = some (.ref (He.ga K "DIRECTIONS"))
  c_SQUARE : ∃ u, mg "SQUARE" = some u ∧ RelV (.int 8) u
  c_BLOCK_SQUARES : ∃ u, mg "BLOCK_SQUARES" = some u ∧ RelV (.int 4) u
  c_BLOCK : ∃ u, mg "BLOCK" = some u ∧ RelV (.int 32) u
  c_WALLS : ∃ u, mg "WALLS" = some u ∧ RelV (.str "#<>") u
  c_SLOTS : ∃ u, mg "SLOTS" = some u ∧ RelV (.int 16) u
  c_BUCKET : ∃ u, mg "BUCKET" = some u ∧ RelV (.int 49) u
  c_ON_THE_FLOOR : ∃ u, mg "ON_THE_FLOOR" = some u ∧ RelV (.int (-1)) u
  c_IN_THE_AIR : ∃ u, mg "IN_THE_AIR" = some u ∧ RelV (.int (-2)) u
  g_GameError : mg "GameError" = some (.ref (He.ga K "GameError"))
  g_InvalidSlot : mg "InvalidSlot" = some (.ref (He.ga K "InvalidSlot"))
  g_InvalidCell : mg "InvalidCell" = some (.ref (He.ga K "InvalidCell"))
  g_InvalidPair : mg "InvalidPair" = some (.ref (He.ga K "InvalidPair"))
  g_Looks : mg "Looks" = some (.ref (He.ga K "Looks"))
  k_Looks : Cls K (He.ga K "Looks")
  m_Looks : Mk K (He.ga K "Looks") (He.fAd K ("Looks", some "__init__"))
  a_Looks__world : NoAttr K (He.ga K "Looks") "_world"
  a_Looks__looked : NoAttr K (He.ga K "Looks") "_looked"
  e_Looks_at : Meth K (He.ga K "Looks") "at" (He.fAd K ("Looks", some "at"))
  e_Looks_seen : Meth K (He.ga K "Looks") "seen" (He.fAd K ("Looks", some "seen"))
  ex : dirB K = true
theorem txt_of {K : PySem.W.Frag} {w : World} {h h0 : Heap} {mg : Str → Option Value} (X : K.In h) (G : h.Ns mainGlobals mg) (c : He.SaysX fa fn tabs [] exs w h0 K) : Txt K w mg := by
  have cd := c.t.d
  have e0 : exs K = true := c.more
  unfold exs at e0
  obtain ⟨x0, e0⟩ := He.ba e0
  obtain ⟨fd_meet, f_meet⟩ := cd.def_ 0 (d := d_meet) rfl
  obtain ⟨fd_moved, f_moved⟩ := cd.def_ 1 (d := d_moved) rfl
  obtain ⟨fd_extent, f_extent⟩ := cd.def_ 2 (d := d_extent) rfl
  obtain ⟨fd_block_counts, f_block_counts⟩ := cd.def_ 3 (d := d_block_counts) rfl
  obtain ⟨fd_signs_in, f_signs_in⟩ := cd.def_ 4 (d := d_signs_in) rfl
  obtain ⟨fd_is_clear, f_is_clear⟩ := cd.def_ 5 (d := d_is_clear) rfl
  obtain ⟨fd_is_held_up, f_is_held_up⟩ := cd.def_ 6 (d := d_is_held_up) rfl
  obtain ⟨fd_is_barred, f_is_barred⟩ := cd.def_ 7 (d := d_is_barred) rfl
  obtain ⟨fd_is_below, f_is_below⟩ := cd.def_ 8 (d := d_is_below) rfl
  obtain ⟨fd_is_whole, f_is_whole⟩ := cd.def_ 9 (d := d_is_whole) rfl
  obtain ⟨fd_is_between, f_is_between⟩ := cd.def_ 10 (d := d_is_between) rfl
  obtain ⟨fd_body_box, f_body_box⟩ := cd.def_ 11 (d := d_body_box) rfl
  obtain ⟨fd_has_trait, f_has_trait⟩ := cd.def_ 12 (d := d_has_trait) rfl
  obtain ⟨fd_is_fallen, f_is_fallen⟩ := cd.def_ 13 (d := d_is_fallen) rfl
  obtain ⟨fd_buckets_of, f_buckets_of⟩ := cd.def_ 14 (d := d_buckets_of) rfl
  obtain ⟨fd_meeting, f_meeting⟩ := cd.def_ 15 (d := d_meeting) rfl
  obtain ⟨fd_barring, f_barring⟩ := cd.def_ 16 (d := d_barring) rfl
  obtain ⟨fd_lot, f_lot⟩ := cd.def_ 17 (d := d_lot) rfl
  obtain ⟨fd_joining, f_joining⟩ := cd.def_ 18 (d := d_joining) rfl
  obtain ⟨fd_goes_along, f_goes_along⟩ := cd.def_ 19 (d := d_goes_along) rfl
  obtain ⟨fd_stands_on, f_stands_on⟩ := cd.def_ 20 (d := d_stands_on) rfl
  obtain ⟨fd_thing_in, f_thing_in⟩ := cd.def_ 21 (d := d_thing_in) rfl
  obtain ⟨fd_law_take, f_law_take⟩ := cd.def_ 22 (d := d_law_take) rfl
  obtain ⟨fd_law_box, f_law_box⟩ := cd.def_ 23 (d := d_law_box) rfl
  obtain ⟨fd_law_meet, f_law_meet⟩ := cd.def_ 24 (d := d_law_meet) rfl
  obtain ⟨fd_law_has, f_law_has⟩ := cd.def_ 25 (d := d_law_has) rfl
  obtain ⟨fd_law_size, f_law_size⟩ := cd.def_ 26 (d := d_law_size) rfl
  obtain ⟨fd_law_sign, f_law_sign⟩ := cd.def_ 27 (d := d_law_sign) rfl
  obtain ⟨fd_law_signs, f_law_signs⟩ := cd.def_ 28 (d := d_law_signs) rfl
  obtain ⟨fd_law_free, f_law_free⟩ := cd.def_ 29 (d := d_law_free) rfl
  obtain ⟨fd_law_stops, f_law_stops⟩ := cd.def_ 30 (d := d_law_stops) rfl
  obtain ⟨fd_law_blocks, f_law_blocks⟩ := cd.def_ 31 (d := d_law_blocks) rfl
  obtain ⟨fd_law_world, f_law_world⟩ := cd.def_ 32 (d := d_law_world) rfl
  obtain ⟨fd_law_look, f_law_look⟩ := cd.def_ 33 (d := d_law_look) rfl
  obtain ⟨fd_law_lot, f_law_lot⟩ := cd.def_ 34 (d := d_law_lot) rfl
  obtain ⟨fd_law_rest, f_law_rest⟩ := cd.def_ 35 (d := d_law_rest) rfl
  obtain ⟨fd_law_same, f_law_same⟩ := cd.def_ 36 (d := d_law_same) rfl
  obtain ⟨fd_law_rows, f_law_rows⟩ := cd.def_ 37 (d := d_law_rows) rfl
  obtain ⟨fd_law_kind, f_law_kind⟩ := cd.def_ 38 (d := d_law_kind) rfl
  obtain ⟨fd_law_spot, f_law_spot⟩ := cd.def_ 39 (d := d_law_spot) rfl
  obtain ⟨fd_law_fits, f_law_fits⟩ := cd.def_ 40 (d := d_law_fits) rfl
  obtain ⟨fd_law_things, f_law_things⟩ := cd.def_ 41 (d := d_law_things) rfl
  obtain ⟨fd_law_start, f_law_start⟩ := cd.def_ 42 (d := d_law_start) rfl
  obtain ⟨fd_law_game, f_law_game⟩ := cd.def_ 43 (d := d_law_game) rfl
  obtain ⟨fd_law_with_starts, f_law_with_starts⟩ := cd.def_ 44 (d := d_law_with_starts) rfl
  obtain ⟨fd_law_presses, f_law_presses⟩ := cd.def_ 45 (d := d_law_presses) rfl
  obtain ⟨fd_law_seen, f_law_seen⟩ := cd.def_ 46 (d := d_law_seen) rfl
  obtain ⟨fd_law_meeting, f_law_meeting⟩ := cd.def_ 47 (d := d_law_meeting) rfl
  obtain ⟨fd_law_lots, f_law_lots⟩ := cd.def_ 48 (d := d_law_lots) rfl
  obtain ⟨fd_law, f_law⟩ := cd.def_ 49 (d := d_law) rfl
  obtain ⟨fd_Looks_init, f_Looks_init⟩ := cd.def_ 50 (d := d_Looks_init) rfl
  obtain ⟨fd_Looks_at, f_Looks_at⟩ := cd.def_ 51 (d := d_Looks_at) rfl
  obtain ⟨fd_Looks_seen, f_Looks_seen⟩ := cd.def_ 52 (d := d_Looks_seen) rfl
  exact {
    F_meet := fdAt_eq f_meet
    b_meet := (fdAt_eq (st := s_meet) f_meet).bindsN fun _ _ _ _ _ _ us hl => match us, hl with | [_, _], _ => rfl
    F_moved := fdAt_eq f_moved
    b_moved := (fdAt_eq (st := s_moved) f_moved).bindsN fun _ _ _ _ _ _ us hl => match us, hl with | [_, _, _], _ => rfl
    F_extent := fdAt_eq f_extent
    b_extent := (fdAt_eq (st := s_extent) f_extent).bindsN fun _ _ _ _ _ _ us hl => match us, hl with | [_], _ => rfl
    F_block_counts := fdAt_eq f_block_counts
    b_block_counts := (fdAt_eq (st := s_block_counts) f_block_counts).bindsN fun _ _ _ _ _ _ us hl => match us, hl with | [_], _ => rfl
    F_signs_in := fdAt_eq f_signs_in
    b_signs_in := (fdAt_eq (st := s_signs_in) f_signs_in).bindsN fun _ _ _ _ _ _ us hl => match us, hl with | [_, _], _ => rfl
    F_is_clear := fdAt_eq f_is_clear
    b_is_clear := (fdAt_eq (st := s_is_clear) f_is_clear).bindsN fun _ _ _ _ _ _ us hl => match us, hl with | [_, _], _ => rfl
    F_is_held_up := fdAt_eq f_is_held_up
    b_is_held_up := (fdAt_eq (st := s_is_held_up) f_is_held_up).bindsN fun _ _ _ _ _ _ us hl => match us, hl with | [_, _], _ => rfl
    F_is_barred := fdAt_eq f_is_barred
    b_is_barred := (fdAt_eq (st := s_is_barred) f_is_barred).bindsN fun _ _ _ _ _ _ us hl => match us, hl with | [_, _, _, _], _ => rfl
    F_is_below := fdAt_eq f_is_below
    b_is_below := (fdAt_eq (st := s_is_below) f_is_below).bindsN fun _ _ _ _ _ _ us hl => match us, hl with | [_, _], _ => rfl
    F_is_whole := fdAt_eq f_is_whole
    b_is_whole := (fdAt_eq (st := s_is_whole) f_is_whole).bindsN fun _ _ _ _ _ _ us hl => match us, hl with | [_], _ => rfl
    F_is_between := fdAt_eq f_is_between
    b_is_between := (fdAt_eq (st := s_is_between) f_is_between).bindsN fun _ _ _ _ _ _ us hl => match us, hl with | [_, _, _], _ => rfl
    F_body_box := fdAt_eq f_body_box
    b_body_box := (fdAt_eq (st := s_body_box) f_body_box).bindsN fun _ _ _ _ _ _ us hl => match us, hl with | [_, _], _ => rfl
    F_has_trait := fdAt_eq f_has_trait
    b_has_trait := (fdAt_eq (st := s_has_trait) f_has_trait).bindsN fun _ _ _ _ _ _ us hl => match us, hl with | [_, _, _], _ => rfl
    F_is_fallen := fdAt_eq f_is_fallen
    b_is_fallen := (fdAt_eq (st := s_is_fallen) f_is_fallen).bindsN fun _ _ _ _ _ _ us hl => match us, hl with | [_, _], _ => rfl
    F_buckets_of := fdAt_eq f_buckets_of
    b_buckets_of := (fdAt_eq (st := s_buckets_of) f_buckets_of).bindsN fun _ _ _ _ _ _ us hl => match us, hl with | [_, _], _ => rfl
    F_meeting := fdAt_eq f_meeting
    b_meeting := (fdAt_eq (st := s_meeting) f_meeting).bindsN fun _ _ _ _ _ _ us hl => match us, hl with | [_, _, _, _], _ => rfl
    F_barring := fdAt_eq f_barring
    b_barring := (fdAt_eq (st := s_barring) f_barring).bindsN fun _ _ _ _ _ _ us hl => match us, hl with | [_, _, _, _], _ => rfl
    F_lot := fdAt_eq f_lot
    b_lot := (fdAt_eq (st := s_lot) f_lot).bindsN fun _ _ _ _ _ _ us hl => match us, hl with | [_, _, _, _, _], _ => rfl
    F_joining := fdAt_eq f_joining
    b_joining := (fdAt_eq (st := s_joining) f_joining).bindsN fun _ _ _ _ _ _ us hl => match us, hl with | [_, _, _, _, _, _], _ => rfl
    F_goes_along := fdAt_eq f_goes_along
    b_goes_along := (fdAt_eq (st := s_goes_along) f_goes_along).bindsN fun _ _ _ _ _ _ us hl => match us, hl with | [_, _, _], _ => rfl
    F_stands_on := fdAt_eq f_stands_on
    b_stands_on := (fdAt_eq (st := s_stands_on) f_stands_on).bindsN fun _ _ _ _ _ _ us hl => match us, hl with | [_, _, _], _ => rfl
    F_thing_in := fdAt_eq f_thing_in
    b_thing_in := (fdAt_eq (st := s_thing_in) f_thing_in).bindsN fun _ _ _ _ _ _ us hl => match us, hl with | [_, _], _ => rfl
    F_law_take := fdAt_eq f_law_take
    b_law_take := (fdAt_eq (st := s_law_take) f_law_take).bindsN fun _ _ _ _ _ _ us hl => match us, hl with | [_, _], _ => rfl
    F_law_box := fdAt_eq f_law_box
    b_law_box := (fdAt_eq (st := s_law_box) f_law_box).bindsN fun _ _ _ _ _ _ us hl => match us, hl with | [_, _], _ => rfl
    F_law_meet := fdAt_eq f_law_meet
    b_law_meet := (fdAt_eq (st := s_law_meet) f_law_meet).bindsN fun _ _ _ _ _ _ us hl => match us, hl with | [_, _], _ => rfl
    F_law_has := fdAt_eq f_law_has
    b_law_has := (fdAt_eq (st := s_law_has) f_law_has).bindsN fun _ _ _ _ _ _ us hl => match us, hl with | [_, _, _], _ => rfl
    F_law_size := fdAt_eq f_law_size
    b_law_size := (fdAt_eq (st := s_law_size) f_law_size).bindsN fun _ _ _ _ _ _ us hl => match us, hl with | [_], _ => rfl
    F_law_sign := fdAt_eq f_law_sign
    b_law_sign := (fdAt_eq (st := s_law_sign) f_law_sign).bindsN fun _ _ _ _ _ _ us hl => match us, hl with | [_, _, _], _ => rfl
    F_law_signs := fdAt_eq f_law_signs
    b_law_signs := (fdAt_eq (st := s_law_signs) f_law_signs).bindsN fun _ _ _ _ _ _ us hl => match us, hl with | [_, _], _ => rfl
    F_law_free := fdAt_eq f_law_free
    b_law_free := (fdAt_eq (st := s_law_free) f_law_free).bindsN fun _ _ _ _ _ _ us hl => match us, hl with | [_, _], _ => rfl
    F_law_stops := fdAt_eq f_law_stops
    b_law_stops := (fdAt_eq (st := s_law_stops) f_law_stops).bindsN fun _ _ _ _ _ _ us hl => match us, hl with | [_, _, _, _], _ => rfl
    F_law_blocks := fdAt_eq f_law_blocks
    b_law_blocks := (fdAt_eq (st := s_law_blocks) f_law_blocks).bindsN fun _ _ _ _ _ _ us hl => match us, hl with | [_, _], _ => rfl
    F_law_world := fdAt_eq f_law_world
    b_law_world := (fdAt_eq (st := s_law_world) f_law_world).bindsN fun _ _ _ _ _ _ us hl => match us, hl with | [_, _], _ => rfl
    F_law_look := fdAt_eq f_law_look
    b_law_look := (fdAt_eq (st := s_law_look) f_law_look).bindsN fun _ _ _ _ _ _ us hl => match us, hl with | [_, _, _, _, _], _ => rfl
    F_law_lot := fdAt_eq f_law_lot
    b_law_lot := (fdAt_eq (st := s_law_lot) f_law_lot).bindsN fun _ _ _ _ _ _ us hl => match us, hl with | [_, _, _, _, _, _], _ => rfl
    F_law_rest := fdAt_eq f_law_rest
    b_law_rest := (fdAt_eq (st := s_law_rest) f_law_rest).bindsN fun _ _ _ _ _ _ us hl => match us, hl with | [_, _, _, _], _ => rfl
    F_law_same := fdAt_eq f_law_same
    b_law_same := (fdAt_eq (st := s_law_same) f_law_same).bindsN fun _ _ _ _ _ _ us hl => match us, hl with | [_, _], _ => rfl
    F_law_rows := fdAt_eq f_law_rows
    b_law_rows := (fdAt_eq (st := s_law_rows) f_law_rows).bindsN fun _ _ _ _ _ _ us hl => match us, hl with | [_, _, _], _ => rfl
    F_law_kind := fdAt_eq f_law_kind
    b_law_kind := (fdAt_eq (st := s_law_kind) f_law_kind).bindsN fun _ _ _ _ _ _ us hl => match us, hl with | [_, _, _], _ => rfl
    F_law_spot := fdAt_eq f_law_spot
    b_law_spot := (fdAt_eq (st := s_law_spot) f_law_spot).bindsN fun _ _ _ _ _ _ us hl => match us, hl with | [_, _, _, _], _ => rfl
    F_law_fits := fdAt_eq f_law_fits
    b_law_fits := (fdAt_eq (st := s_law_fits) f_law_fits).bindsN fun _ _ _ _ _ _ us hl => match us, hl with | [_, _, _, _, _], _ => rfl
    F_law_things := fdAt_eq f_law_things
    b_law_things := (fdAt_eq (st := s_law_things) f_law_things).bindsN fun _ _ _ _ _ _ us hl => match us, hl with | [_, _, _], _ => rfl
    F_law_start := fdAt_eq f_law_start
    b_law_start := (fdAt_eq (st := s_law_start) f_law_start).bindsN fun _ _ _ _ _ _ us hl => match us, hl with | [_, _, _], _ => rfl
    F_law_game := fdAt_eq f_law_game
    b_law_game := (fdAt_eq (st := s_law_game) f_law_game).bindsN fun _ _ _ _ _ _ us hl => match us, hl with | [_, _, _], _ => rfl
    F_law_with_starts := fdAt_eq f_law_with_starts
    b_law_with_starts := (fdAt_eq (st := s_law_with_starts) f_law_with_starts).bindsN fun _ _ _ _ _ _ us hl => match us, hl with | [_, _, _], _ => rfl
    F_law_presses := fdAt_eq f_law_presses
    b_law_presses := (fdAt_eq (st := s_law_presses) f_law_presses).bindsN fun _ _ _ _ _ _ us hl => match us, hl with | [_, _], _ => rfl
    F_law_seen := fdAt_eq f_law_seen
    b_law_seen := (fdAt_eq (st := s_law_seen) f_law_seen).bindsN fun _ _ _ _ _ _ us hl => match us, hl with | [_, _], _ => rfl
    F_law_meeting := fdAt_eq f_law_meeting
    b_law_meeting := (fdAt_eq (st := s_law_meeting) f_law_meeting).bindsN fun _ _ _ _ _ _ us hl => match us, hl with | [_, _, _, _, _, _], _ => rfl
    F_law_lots := fdAt_eq f_law_lots
    b_law_lots := (fdAt_eq (st := s_law_lots) f_law_lots).bindsN fun _ _ _ _ _ _ us hl => match us, hl with | [_, _, _, _, _, _, _], _ => rfl
    F_law := fdAt_eq f_law
    b_law := (fdAt_eq (st := s_law) f_law).bindsN fun _ _ _ _ _ _ us hl => match us, hl with | [_], _ => rfl
    F_Looks_init := fdAt_eq f_Looks_init
    b_Looks_init := (fdAt_eq (st := s_Looks_init) f_Looks_init).bindsN fun _ _ _ _ _ _ us hl => match us, hl with | [_, _], _ => rfl
    F_Looks_at := fdAt_eq f_Looks_at
    b_Looks_at := (fdAt_eq (st := s_Looks_at) f_Looks_at).bindsN fun _ _ _ _ _ _ us hl => match us, hl with | [_, _], _ => rfl
    F_Looks_seen := fdAt_eq f_Looks_seen
    b_Looks_seen := (fdAt_eq (st := s_Looks_seen) f_Looks_seen).bindsN fun _ _ _ _ _ _ us hl => match us, hl with | [_], _ => rfl
    g_meet := He.glo_ok X G (cd.fact 0 (f := .glo "meet") rfl)
    g_moved := He.glo_ok X G (cd.fact 1 (f := .glo "moved") rfl)
    g_extent := He.glo_ok X G (cd.fact 2 (f := .glo "extent") rfl)
    g_block_counts := He.glo_ok X G (cd.fact 3 (f := .glo "block_counts") rfl)
    g_signs_in := He.glo_ok X G (cd.fact 4 (f := .glo "signs_in") rfl)
    g_is_clear := He.glo_ok X G (cd.fact 5 (f := .glo "is_clear") rfl)
    g_is_held_up := He.glo_ok X G (cd.fact 6 (f := .glo "is_held_up") rfl)
    g_is_barred := He.glo_ok X G (cd.fact 7 (f := .glo "is_barred") rfl)
    g_is_below := He.glo_ok X G (cd.fact 8 (f := .glo "is_below") rfl)
    g_is_whole := He.glo_ok X G (cd.fact 9 (f := .glo "is_whole") rfl)
    g_is_between := He.glo_ok X G (cd.fact 10 (f := .glo "is_between") rfl)
    g_body_box := He.glo_ok X G (cd.fact 11 (f := .glo "body_box") rfl)
    g_has_trait := He.glo_ok X G (cd.fact 12 (f := .glo "has_trait") rfl)
    g_is_fallen := He.glo_ok X G (cd.fact 13 (f := .glo "is_fallen") rfl)
    g_buckets_of := He.glo_ok X G (cd.fact 14 (f := .glo "buckets_of") rfl)
    g_meeting := He.glo_ok X G (cd.fact 15 (f := .glo "meeting") rfl)
    g_barring := He.glo_ok X G (cd.fact 16 (f := .glo "_barring") rfl)
    g_lot := He.glo_ok X G (cd.fact 17 (f := .glo "lot") rfl)
    g_joining := He.glo_ok X G (cd.fact 18 (f := .glo "_joining") rfl)
    g_goes_along := He.glo_ok X G (cd.fact 19 (f := .glo "_goes_along") rfl)
    g_stands_on := He.glo_ok X G (cd.fact 20 (f := .glo "stands_on") rfl)
    g_thing_in := He.glo_ok X G (cd.fact 21 (f := .glo "_thing_in") rfl)
    g_law_take := He.glo_ok X G (cd.fact 22 (f := .glo "_law_take") rfl)
    g_law_box := He.glo_ok X G (cd.fact 23 (f := .glo "_law_box") rfl)
    g_law_meet := He.glo_ok X G (cd.fact 24 (f := .glo "_law_meet") rfl)
    g_law_has := He.glo_ok X G (cd.fact 25 (f := .glo "_law_has") rfl)
    g_law_size := He.glo_ok X G (cd.fact 26 (f := .glo "_law_size") rfl)
    g_law_sign := He.glo_ok X G (cd.fact 27 (f := .glo "_law_sign") rfl)
    g_law_signs := He.glo_ok X G (cd.fact 28 (f := .glo "_law_signs") rfl)
    g_law_free := He.glo_ok X G (cd.fact 29 (f := .glo "_law_free") rfl)
    g_law_stops := He.glo_ok X G (cd.fact 30 (f := .glo "_law_stops") rfl)
    g_law_blocks := He.glo_ok X G (cd.fact 31 (f := .glo "_law_blocks") rfl)
    g_law_world := He.glo_ok X G (cd.fact 32 (f := .glo "_law_world") rfl)
    g_law_look := He.glo_ok X G (cd.fact 33 (f := .glo "_law_look") rfl)
    g_law_lot := He.glo_ok X G (cd.fact 34 (f := .glo "_law_lot") rfl)
    g_law_rest := He.glo_ok X G (cd.fact 35 (f := .glo "_law_rest") rfl)
    g_law_same := He.glo_ok X G (cd.fact 36 (f := .glo "_law_same") rfl)
    g_law_rows := He.glo_ok X G (cd.fact 37 (f := .glo "_law_rows") rfl)
    g_law_kind := He.glo_ok X G (cd.fact 38 (f := .glo "_law_kind") rfl)
    g_law_spot := He.glo_ok X G (cd.fact 39 (f := .glo "_law_spot") rfl)
    g_law_fits := He.glo_ok X G (cd.fact 40 (f := .glo "_law_fits") rfl)
    g_law_things := He.glo_ok X G (cd.fact 41 (f := .glo "_law_things") rfl)
    g_law_start := He.glo_ok X G (cd.fact 42 (f := .glo "_law_start") rfl)
    g_law_game := He.glo_ok X G (cd.fact 43 (f := .glo "_law_game") rfl)
    g_law_with_starts := He.glo_ok X G (cd.fact 44 (f := .glo "_law_with_starts") rfl)
    g_law_presses := He.glo_ok X G (cd.fact 45 (f := .glo "_law_presses") rfl)
    g_law_seen := He.glo_ok X G (cd.fact 46 (f := .glo "_law_seen") rfl)
    g_law_meeting := He.glo_ok X G (cd.fact 47 (f := .glo "_law_meeting") rfl)
    g_law_lots := He.glo_ok X G (cd.fact 48 (f := .glo "_law_lots") rfl)
    g_law := He.glo_ok X G (cd.fact 49 (f := .glo "law") rfl)
    n_len := He.free_ok X G (cd.fact 50 (f := .free "len") rfl)
    n_int := He.free_ok X G (cd.fact 51 (f := .free "int") rfl)
    n_isinstance := He.free_ok X G (cd.fact 52 (f := .free "isinstance") rfl)
    n_range := He.free_ok X G (cd.fact 53 (f := .free "range") rfl)
    n_all := He.free_ok X G (cd.fact 54 (f := .free "all") rfl)
    n_any := He.free_ok X G (cd.fact 55 (f := .free "any") rfl)
    n_min := He.free_ok X G (cd.fact 56 (f := .free "min") rfl)
    n_max := He.free_ok X G (cd.fact 57 (f := .free "max") rfl)
    n_bool := He.free_ok X G (cd.fact 58 (f := .free "bool") rfl)
    n_tuple := He.free_ok X G (cd.fact 59 (f := .free "tuple") rfl)
    n_list := He.free_ok X G (cd.fact 60 (f := .free "list") rfl)
    n_sorted := He.free_ok X G (cd.fact 61 (f := .free "sorted") rfl)
    n_zip := He.free_ok X G (cd.fact 62 (f := .free "zip") rfl)
    n_ValueError := He.free_ok X G (cd.fact 63 (f := .free "ValueError") rfl)
    n_repr := He.free_ok X G (cd.fact 64 (f := .free "repr") rfl)
    g_DIRECTIONS := He.glo_ok X G (cd.fact 65 (f := .glo "DIRECTIONS") rfl)
    c_SQUARE := by
      obtain ⟨t, e⟩ := He.int_ok X G (cd.fact 66 (f := .int "SQUARE" 8) rfl)
      exact ⟨_, e, ⟨t, rfl⟩⟩
    c_BLOCK_SQUARES := by
      obtain ⟨t, e⟩ := He.int_ok X G (cd.fact 67 (f := .int "BLOCK_SQUARES" 4) rfl)
      exact ⟨_, e, ⟨t, rfl⟩⟩
    c_BLOCK := by
      obtain ⟨t, e⟩ := He.int_ok X G (cd.fact 68 (f := .int "BLOCK" 32) rfl)
      exact ⟨_, e, ⟨t, rfl⟩⟩
    c_WALLS := by
      obtain ⟨t, e⟩ := He.str_ok X G (cd.fact 69 (f := .str "WALLS" "#<>") rfl)
      exact ⟨_, e, ⟨t, rfl⟩⟩
    c_SLOTS := by
      obtain ⟨t, e⟩ := He.int_ok X G (cd.fact 70 (f := .int "SLOTS" 16) rfl)
      exact ⟨_, e, ⟨t, rfl⟩⟩
    c_BUCKET := by
      obtain ⟨t, e⟩ := He.int_ok X G (cd.fact 71 (f := .int "BUCKET" 49) rfl)
      exact ⟨_, e, ⟨t, rfl⟩⟩
    c_ON_THE_FLOOR := by
      obtain ⟨t, e⟩ := He.int_ok X G (cd.fact 72 (f := .int "ON_THE_FLOOR" (-1)) rfl)
      exact ⟨_, e, ⟨t, rfl⟩⟩
    c_IN_THE_AIR := by
      obtain ⟨t, e⟩ := He.int_ok X G (cd.fact 73 (f := .int "IN_THE_AIR" (-2)) rfl)
      exact ⟨_, e, ⟨t, rfl⟩⟩
    g_GameError := He.glo_ok X G (cd.fact 74 (f := .glo "GameError") rfl)
    g_InvalidSlot := He.glo_ok X G (cd.fact 75 (f := .glo "InvalidSlot") rfl)
    g_InvalidCell := He.glo_ok X G (cd.fact 76 (f := .glo "InvalidCell") rfl)
    g_InvalidPair := He.glo_ok X G (cd.fact 77 (f := .glo "InvalidPair") rfl)
    g_Looks := He.glo_ok X G (cd.fact 78 (f := .glo "Looks") rfl)
    k_Looks := He.cls_ok (cd.fact 79 (f := .cls "Looks") rfl)
    m_Looks := He.mkr_ok (cd.fact 80 (f := .mkr "Looks") rfl)
    a_Looks__world := He.noat_ok (cd.fact 81 (f := .noat "Looks" "_world") rfl)
    a_Looks__looked := He.noat_ok (cd.fact 82 (f := .noat "Looks" "_looked") rfl)
    e_Looks_at := He.meth_ok (cd.fact 83 (f := .meth "Looks" "at") rfl)
    e_Looks_seen := He.meth_ok (cd.fact 84 (f := .meth "Looks" "seen") rfl)
    ex := x0
  }
end K22
set_option maxRecDepth 100000
set_option maxHeartbeats 4000000
/-! Frames, draws, data without lists. -/
namespace KF
open PySem PySem.Spec PyProof.Rows L2
/-! ### data stand while tuples stand -/
def TF (H H' : Hp) : Prop := ∀ b xs, Rd H b (.tup xs) → Rd H' b (.tup xs)
theorem TF.sq {K : PySem.W.Frag} {H H' : Hp} (e : TF H H') {a : Addr} {xs : List V} (h : SqT K H a xs) : SqT K H' a xs := by
  rcases h with h | h
  · exact .inl (e _ _ h)
  · exact .inr h
theorem TF.refl (H : Hp) : TF H H := fun _ _ h => h
theorem TF.trans {H H1 H2 : Hp} (a : TF H H1) (b : TF H1 H2) : TF H H2 := fun c xs h => b c xs (a c xs h)
theorem TF.of_new {H : Hp} {p : Addr} {o : HO} (h : H p = none) : TF H (upd H p o) := fun c xs z => by
  rcases z with z | ⟨u, z⟩
  · exact .inl (by rw [upd_ne (ne_of_none z h)]; exact z)
  · exact .inr ⟨u, by rw [upd_ne (ne_of_none z h)]; exact z⟩
/-- but for one list all stands -/
def Frm (d : Addr) (H H' : Hp) : Prop := ∀ b o, b ≠ d → H b = some o → H' b = some o
theorem Frm.refl (d : Addr) (H : Hp) : Frm d H H := fun _ _ _ h => h
theorem Frm.trans {d : Addr} {H H1 H2 : Hp} (a : Frm d H H1) (b : Frm d H1 H2) : Frm d H H2 := fun c o n h => b c o n (a c o n h)
theorem Frm.of_same {d : Addr} {H H' : Hp} (e : Same H H') : Frm d H H' := fun b o _ h => e b o h
theorem Frm.of_new {d : Addr} {H : Hp} {p : Addr} {o : HO} (h : H p = none) : Frm d H (upd H p o) := fun b u _ z => by
  rw [upd_ne (ne_of_none z h)]
  exact z
theorem Frm.of_upd {d : Addr} {H : Hp} {o : HO} : Frm d H (upd H d o) := fun b u n z => by
  rw [upd_ne n]
  exact z
theorem Frm.tf {d : Addr} {H H' : Hp} {xs : List V} (e : Frm d H H') (h : H d = some (.lst xs)) : TF H H' := fun c ys z => by
  rcases z with z | ⟨u, z⟩
  · exact .inl (e c _ (fun q => by rw [q, h] at z; cases z) z)
  · exact .inr ⟨u, e c _ (fun q => by rw [q, h] at z; cases z) z⟩
theorem new_same {H : Hp} {p : Addr} {o : HO} (h : H p = none) : Same H (upd H p o) := fun b u z => by
  rw [upd_ne (ne_of_none z h)]
  exact z
theorem same_tf {H H' : Hp} (s : Same H H') : TF H H' := fun c zs z => by
  rcases z with z | ⟨u, z⟩
  · exact .inl (s _ _ z)
  · exact .inr ⟨u, s _ _ z⟩
theorem frm_same {H0 H1 H2 : Hp} {d : Addr} (s : Same H0 H1) (n : H0 d = none) (f : Frm d H1 H2) : Same H0 H2 := fun b o z => f b o (ne_of_none z n) (s b o z)
/-- a row of draws at d, good for n more -/
def Deck (H : Hp) (d : Addr) (n : Nat) : Prop := ∃ r m i c : Int, H d = some (.lst [.int r, .int m, .int i, .int c]) ∧ 0 ≤ m ∧ m < 2305843009213693951 ∧ 0 ≤ i ∧ i ≤ 1000 ∧ 0 ≤ c ∧ c + n ≤ 1000000000000
theorem Deck.le {H : Hp} {d : Addr} {n k : Nat} (h : Deck H d n) (hk : k ≤ n) : Deck H d k := by
  obtain ⟨r, m, i, c, h0, h1, h2, h3, h4, h5, h6⟩ := h
  exact ⟨r, m, i, c, h0, h1, h2, h3, h4, h5, by omega⟩
theorem Deck.lst {H : Hp} {d : Addr} {n : Nat} (h : Deck H d n) : ∃ xs, H d = some (.lst xs) := by
  obtain ⟨r, m, i, c, h0, _⟩ := h
  exact ⟨_, h0⟩
theorem Deck.keep {H H' : Hp} {d : Addr} {n : Nat} (h : Deck H d n) (e : H' d = H d) : Deck H' d n := by
  obtain ⟨r, m, i, c, h0, h1⟩ := h
  exact ⟨r, m, i, c, by rw [e]; exact h0, h1⟩
theorem Deck.same {H H' : Hp} {d : Addr} {n : Nat} (h : Deck H d n) (e : Same H H') : Deck H' d n := by
  obtain ⟨r, m, i, c, h0, h1⟩ := h
  exact ⟨r, m, i, c, e _ _ h0, h1⟩
theorem small_ab {i : Int} {n : Nat} (h0 : 0 ≤ i) (h1 : i < 2 ^ n) : i.natAbs < 2 ^ n := by
  have e : ((i.natAbs : Nat) : Int) = i := Int.natAbs_of_nonneg h0
  have h2 : ((i.natAbs : Nat) : Int) < ((2 ^ n : Nat) : Int) := by
    rw [e, Int.natCast_pow]
    exact h1
  exact Int.ofNat_lt.mp h2
theorem pow63 : (2 : Int) ^ 63 = 9223372036854775808 := by decide
theorem pow20 : (2 : Int) ^ 20 = 1048576 := by decide
theorem pow40 : (2 : Int) ^ 40 = 1099511627776 := by decide
theorem pow122 : (2 : Nat) ^ 122 = 5316911983139663491615228241121378304 := by decide
theorem pow120 : (2 : Nat) ^ (40 + 40 + 40) = 1329227995784915872903807060280344576 := by decide
theorem ne_int {i j : Int} (h : ¬ (V.int i = V.int j)) : i ≠ j := fun e => h (by rw [e])
theorem ty_tup {K : PySem.W.Frag} {H : Hp} {a : Addr} {xs : List V} (h : SqT K H a xs) : TyX K H (.ref a) (.type "tuple") := by
  rcases h with (h | ⟨o, h⟩) | ⟨o, _, _, h, hc, _⟩
  · exact .base (.tup h)
  · exact .fTuple h
  · exact .kTuple h hc
section
variable {K : PySem.W.Frag} {H : Hp}
theorem dpa_len : ∀ {vs : List V} {ds : List PyData}, DpAll K H vs ds → vs.length = ds.length
  | [], _, h => by cases h; rfl
  | v :: vs, _, h => by
    cases h with
    | cons _ b => rw [List.length_cons, List.length_cons, dpa_len b]
theorem dpa_get : ∀ {vs : List V} {ds : List PyData} {i : Nat} {e : PyData}, DpAll K H vs ds → ds[i]? = some e → ∃ v, vs[i]? = some v ∧ Dp K H v e
  | [], _, i, e, h, he => by cases h; cases he
  | v :: vs, _, 0, e, h, he => by
    cases h with
    | cons a _ => cases he; exact ⟨v, rfl, a⟩
  | v :: vs, _, i + 1, e, h, he => by
    cases h with
    | cons _ b => exact dpa_get (vs := vs) (i := i) b he
end
/-! ### x is True, x is not True, x any value -/
def rIsT (c : Bool) : R2 := fun x y H Q => y = .bl c ∧ Q (.bl (decide (x = .bl c))) H
theorem plain_bl (c : Bool) {x : V} {u : Value} (r : RelV x u) : plainIs u (.bool c) = true := by
  cases x <;> first | (cases r; rfl) | (obtain ⟨t, rfl⟩ := r; rfl)
section
variable {X : Cx}
theorem op_isT (c : Bool) : OpR X (compareOp .Is) (rIsT c) := by
  intro pins s σ H x y v u Q I rx ry h
  obtain ⟨rfl, q⟩ := h
  cases (show u = Value.bool c from ry)
  by_cases e : x = .bl c
  · subst e
    cases (show v = Value.bool c from rx)
    exact wpAny_is_self (plain_bl c rx) ⟨.bl true, H, I, rfl, by simpa using q⟩
  · refine wpAny_is_other (plain_bl c rx) (fun z => e ?_) ⟨.bl false, H, I, rfl, by simpa [e] using q⟩
    subst z
    exact RelV.inj rx rfl
theorem op_notT (c : Bool) : OpR X (compareOp .IsNot) (fun x y H Q => y = .bl c ∧ Q (.bl (!decide (x = .bl c))) H) := by
  intro pins s σ H x y v u Q I rx ry h
  obtain ⟨rfl, q⟩ := h
  cases (show u = Value.bool c from ry)
  by_cases e : x = .bl c
  · subst e
    cases (show v = Value.bool c from rx)
    exact wpAny_isNot_self (plain_bl c rx) ⟨.bl false, H, I, rfl, by simpa using q⟩
  · refine wpAny_isNot_other (plain_bl c rx) (fun z => e ?_) ⟨.bl true, H, I, rfl, by simpa [e] using q⟩
    subst z
    exact RelV.inj rx rfl
end

/-! ### data without lists and dicts -/
mutual
def NL : PyData → Prop
  | .none => True
  | .bool _ => True
  | .int _ => True
  | .str _ => True
  | .list _ => False
  | .tuple ds => NLs ds
  | .dict _ => False
def NLs : List PyData → Prop
  | [] => True
  | d :: ds => NL d ∧ NLs ds
end
section
variable {K : PySem.W.Frag} {H H' : Hp}
mutual
theorem dp_nl (e : TF H H') : ∀ (d : PyData) (v : V), NL d → Dp K H v d → Dp K H' v d
  | .none, _, _, h => by cases h; exact .non
  | .bool _, _, _, h => by cases h; exact .bl _
  | .int _, _, _, h => by cases h; exact .int _
  | .str _, _, _, h => by cases h; exact .str _
  | .list _, _, r, _ => r.elim
  | .dict _, _, r, _ => r.elim
  | .tuple ds, _, r, h => by
    cases h with
    | tup a b => exact .tup (e.sq a) (dpa_nl e ds _ r b)
theorem dpa_nl (e : TF H H') : ∀ (ds : List PyData) (vs : List V), NLs ds → DpAll K H vs ds → DpAll K H' vs ds
  | [], _, _, h => by cases h; exact .nil
  | d :: ds, _, r, h => by
    cases h with
    | cons a b => exact .cons (dp_nl e d _ r.1 a) (dpa_nl e ds _ r.2 b)
end
end
end KF
set_option maxRecDepth 100000
set_option maxHeartbeats 4000000
/-! enumerate of a tuple, from any number on; sorted of a dict of any size; dict of a tuple of pairs. -/
namespace PySem
open Sem (wp)
set_option maxHeartbeats 1000000 in
theorem kd_meets_enum1 {v : Value} {o : Obj} {Hv : Heap → Prop} (B : Begins v o Hv) :
    Meets (Builtin.«enumerate.__new__» ⟨[.type "enumerate", v], []⟩) (fun _ R s => Hv s.heap ∧
      R (.ok (.ret (.ref (s.heap.push o).objs.size))) { s with heap := (s.heap.push o).push { cls := .type "enumerate", data := .fields #[.none, .bool false, .ref s.heap.objs.size, rawInt 0, .none, .none] } }) :=
  .of_wp fun prog w A R s hh => by
    obtain ⟨hp, g, d, tk, os⟩ := s
    obtain ⟨v1, hh⟩ := hh
    have hsub := sub_enumerate
    have start : ∀ {A' : Around} {E : Value → Shared → Prop} {Q : Value → Shared → Prop}, Q (.ref hp.objs.size) ⟨hp.push o, g, d, tk, os⟩ → wpAny (model prog w) A' (pyIter v) Q E ⟨hp, g, d, tk, os⟩ :=
      fun q => B.iter prog w _ _ ⟨hp, g, d, tk, os⟩ _ v1 q
    wp_walk using start
    refine wpAny_stack_any fun st => wpAny_pure ?_
    split
    · rename_i c _ _ _ _ _
      cases (c == Value.type "enumerate")
      · wp_walk using start
        exact ⟨_, rfl, hh⟩
      · wp_walk using start
        exact ⟨_, rfl, hh⟩
    · wp_walk using start
      exact ⟨_, rfl, hh⟩
section
variable {prog : Program} {w : World} {A : Around} {E : Value → Shared → Prop} {s : Shared}
theorem kd_enum1 {v : Value} {o : Obj} {Hv : Heap → Prop} {Q : Value → Shared → Prop} (B : Begins v o Hv) (v1 : Hv s.heap)
    (hq : ∀ h', IsEnum h' (s.heap.objs.size + 1) s.heap.objs.size 0 .none → h'.get? s.heap.objs.size = some o → h'.objs.size = s.heap.objs.size + 2 →
      (∀ b o, s.heap.get? b = some o → h'.get? b = some o) → Q (.ref (s.heap.objs.size + 1)) { s with heap := h' }) :
    wpAny (model prog w) A (call (.type "enumerate") [v]) Q E s := by
  refine callType_new F.called_enumerate (by decide) (F.typeCall_enumerate_1 _) (F.newCall_enumerate_1 _) (fun ob => F.args_object_init_2 ob _) F.entry_enumerate_new
    (kd_meets_enum1 B) ⟨v1, ?_⟩
  have hz : (s.heap.push o).objs.size = s.heap.objs.size + 1 := Heap.size_push ..
  show _ ∧ _
  rw [hz]
  have he : IsEnum ((s.heap.push o).push { cls := .type "enumerate", data := .fields #[.none, .bool false, .ref s.heap.objs.size, rawInt 0, .none, .none] }) (s.heap.objs.size + 1) s.heap.objs.size 0 .none := by
    have := Heap.get?_push_size (s.heap.push o) (o := { cls := .type "enumerate", data := .fields #[.none, .bool false, .ref s.heap.objs.size, rawInt 0, .none, .none] }) rfl
    rw [hz] at this
    exact this
  exact ⟨⟨_, he, rfl⟩, hq _ he (Heap.get?_push_of_some _ (Heap.get?_push_size _ B.free)) (by rw [Heap.size_push, hz]) fun b o x => Heap.get?_push_of_some _ (Heap.get?_push_of_some _ x)⟩
end
end PySem
namespace KD
open PySem PySem.Spec PyProof.Rows L2
/-- the tuple at a, each item behind its number, from c on, in a new pair -/
def Ity (K : PySem.W.Frag) (a : Addr) (c : Int) : It :=
  ⟨fun i G => ∃ (xs : List V) (x : V), SqT K G a xs ∧ xs[i]? = some x, fun i G v G' => ∃ t x, v = .ref t ∧ G t = none ∧ G' = upd G t (.tup [.int (c + (i : Nat)), x]) ∧ ∀ xs, SqT K G a xs → xs[i]? = some x, fun i G => ∃ xs : List V, SqT K G a xs ∧ xs.length ≤ i⟩
theorem turn_ity {P : Program} {w : World} {K : PySem.W.Frag} {elts : List Expr} {kk : Nat} {tpos : Pos} (a e it : Addr) (c : Int) :
    Turn P w K (.Tuple elts kk tpos) (Ity K a c) [e, it] e (fun i h => (∃ old, IsEnum h e it (c + ((i : Nat) : Int)) old) ∧ h.IsTupleIter it a i ∧ e ≠ it) where
  mem := by simp
  obj := fun i h st b hb => by
    obtain ⟨⟨old, he⟩, ⟨o, ho, _, hd⟩, _⟩ := st
    have z : b = e ∨ b = it := by simpa using hb
    rcases z with z | z
    · rw [z]
      exact ⟨_, he, fun v q => nomatch q⟩
    · rw [z]
      exact ⟨o, ho, fun v q => by rw [hd] at q; cases q⟩
  keep := fun i h h' st k => let ⟨⟨old, he⟩, hi, hne⟩ := st; ⟨⟨old, k e (by simp) _ he⟩, hi.at fun o q => k it (by simp) o q, hne⟩
  item := by
    intro X hP hw hK hc i pins s σ G E I hf st hg
    subst hP hw hK
    obtain ⟨⟨old, he⟩, hit, hne⟩ := st
    obtain ⟨xs, x, hq, hx⟩ := hg
    obtain ⟨its, rv, p, hz⟩ := I.tuple hq
    obtain ⟨u, hu, ru⟩ := rv.get hx
    have p2 : s.heap.IsTuple a its.toArray := p
    obtain ⟨oa, g1, g2, n1, g3⟩ := id p2
    obtain ⟨oi, i1, i2, i3⟩ := id hit
    have nai : a ≠ it := fun z => by
      rw [z, i1] at g1
      cases g1
      rw [i3] at g3
      cases g3
    have nea : e ≠ a := fun z => by
      have he2 := he
      unfold IsEnum at he2
      rw [z, g1] at he2
      cases he2
      cases g3
    have hel : e < s.heap.objs.size := Heap.lt_size he
    have hil : it < s.heap.objs.size := Heap.lt_size i1
    have D := Draws.tuple (prog := X.prog) (w := X.w) (A := X.A.in1) (I.ok.hd hc) it a nai its.toArray
    have hin : i < its.toArray.size := by
      have z : i < its.length := (List.getElem?_eq_some_iff.mp hu).1
      simpa using z
    refine wpAny_pyNext_enum_itemC D he ⟨hit, p2⟩ hin hne (by simp [hne, nea]) fun y h' tk hy ho hst' hT hsz hk => ?_
    have hy2 : y = u := by
      have z : its[i]? = some y := by simpa using hy
      rw [hu] at z
      exact (Option.some.inj z).symm
    subst hy2
    refine ⟨_, rfl, wpAny_letOwnedTupleGo_enum (s := { s with heap := h', toks := tk + 1 }) ho fun h2 he2 sb => ?_⟩
    have hT2 : h2.get? s.heap.objs.size = some { cls := .type "tuple", data := .seq #[.int (c + ((i : Nat) : Int)) tk, y] } := (sb.2 _ (Nat.ne_of_gt hel)).trans hT
    have new : ObjOk X.prog X.w (upd G s.heap.objs.size (.tup [.int (c + ((i : Nat) : Int)), x])) h2 s.heap.objs.size (.tup [.int (c + ((i : Nat) : Int)), x]) :=
      ⟨by show 2 ≤ sizeLine; decide, [.int (c + ((i : Nat) : Int)) tk, y], .cons ⟨_, rfl⟩ (.cons ru .nil), ⟨_, hT2, rfl, _, rfl⟩⟩
    have I1 : Inv X pins σ (upd G s.heap.objs.size (.tup [.int (c + ((i : Nat) : Int)), x])) { s with heap := h2, toks := tk + 1 } :=
      I.turnedNew (ch := [e, it]) (fun b ob hb q => (sb.2 b (fun z => hb (by simp [z]))).trans (hk b ob (fun z => hb (by simp [z])) (fun z => hb (by simp [z])) q)) hf (Nat.le_refl _) new
    refine ⟨.ref s.heap.objs.size, _, I1, rfl, ⟨_, x, rfl, I.hok.fresh (Nat.le_refl _), rfl, fun ys hys => by rw [I.tuple_inj hys hq]; exact hx⟩, ⟨⟨y, ?_⟩, hst'.1.at fun o q => (sb.2 it (Ne.symm hne)).trans q, hne⟩, fun b hb => ?_⟩
    · have e1 : c + ((i + 1 : Nat) : Int) = c + (i : Int) + 1 := by omega
      rw [e1]
      exact he2
    · have hb2 : b < s.heap.objs.size := by
        have z : b = e ∨ b = it := by simpa using hb
        rcases z with z | z
        · rw [z]; exact hel
        · rw [z]; exact hil
      rw [upd_ne (Nat.ne_of_lt hb2)]
      exact (hf b hb).1
  done := by
    intro X hP hw hK hc i pins s σ G E I hf st hg
    subst hP hw hK
    obtain ⟨⟨old, he⟩, hit, hne⟩ := st
    obtain ⟨xs, hq, hx⟩ := hg
    obtain ⟨its, rv, p, hz⟩ := I.tuple hq
    have p2 : s.heap.IsTuple a its.toArray := p
    obtain ⟨oa, g1, g2, n1, g3⟩ := id p2
    obtain ⟨oi, i1, i2, i3⟩ := id hit
    obtain ⟨f0, f1, f2, f3, f4, f5⟩ := hf it (by simp)
    have hl := rv.length
    have hit2 := hit
    have ends : ∀ h', Heap.ExtBut it s.heap h' → (none : Option Value) = none ∧ Inv X pins σ G { s with heap := h' } := fun h' eb => ⟨rfl, I.turned (t' := s.toks) (fun b o hb q => eb b o hb q) f0 f1 f3 f4 f5⟩
    have hT : s.TypeIs (.ref e) "enumerate" := ⟨_, he, rfl⟩
    unfold pyNext
    refine wpAny_bind (wpAny_attempt (wpAny_callSpecial?_slot (name := Str.ofString "__next__") hT F.slot_enumerate_next (wpAny_call_entry F.slot_enumerate_next hT F.entry_enumerate_next ?_ (F.args_enumerate_next_1 _))))
    show wpAny _ _ (field (.ref e) 2 >>= _) _ _ _
    refine wpAny_bind (wpAny_field he rfl (x := .ref it) rfl ?_)
    refine wpAny_bind (wpAny_nextOf_tuple_end (I.ok.hd hc) hit p2 (by simp; omega) fun h' x he' hx' => ?_)
    obtain ⟨o, ho, hc2⟩ := hx'
    refine wpAny_bind (wpAny_isInstance (T := "StopIteration") (b := true) ⟨o, ho, hc2⟩ isSubtype_stop ?_)
    exact wpAny_pure (ends _ he')
  self := fun A i s Q E st h => let ⟨⟨_, he⟩, _⟩ := st; wpAny_pyIter_enum he h
def iEnT (K : PySem.W.Frag) (ta : TA) : TI := fun σ G R => ta σ G fun vs G1 => ∃ a xs, vs = [.ref a] ∧ SqT K G1 a xs ∧ R (Ity K a 0) G1
def iEnTS (K : PySem.W.Frag) (ta tk : TA) : TI := fun σ G R => ta σ G fun vs G1 => tk σ G1 fun zs G2 => ∃ a xs c, vs = [.ref a] ∧ zs = [.int c] ∧ -(2 ^ 63) ≤ c ∧ c < 2 ^ 63 ∧ SqT K G2 a xs ∧ R (Ity K a c) G2
section
variable {X : Cx} {e : Expr} {ta tk : TA} {p pos tpos : Pos} {elts : List Expr} {kk : Nat} {kws : List Keyword}
theorem begun {pins : List (Addr × Obj)} {σ : L2.St} {G : Hp} {s1 : Shared} {R : It → Hp → Prop} {a : Addr} {c : Int} {h' : Heap} (I1 : Inv X pins σ G s1) (he : IsEnum h' (s1.heap.objs.size + 1) s1.heap.objs.size c .none)
    (hit : h'.get? s1.heap.objs.size = some { cls := .type "tuple_iterator", data := .fields #[.ref a, .int 0 0] }) (hk : ∀ b o, s1.heap.get? b = some o → h'.get? b = some o) (q : R (Ity X.K a c) G) :
    PIE X pins σ (.Tuple elts kk tpos) R (.ref (s1.heap.objs.size + 1)) { s1 with heap := h' } := by
  have I2 : Inv X pins σ G { s1 with heap := h' } := I1.kept (t' := s1.toks) hk
  have he0 : IsEnum h' (s1.heap.objs.size + 1) s1.heap.objs.size (c + ((0 : Nat) : Int)) .none := by
    rw [show c + ((0 : Nat) : Int) = c from by omega]
    exact he
  refine ⟨s1.heap.objs.size + 1, [s1.heap.objs.size + 1, s1.heap.objs.size], _, _, G, rfl, I2, turn_ity a (s1.heap.objs.size + 1) s1.heap.objs.size c, ⟨⟨.none, he0⟩, ⟨_, hit, rfl, rfl⟩, Nat.succ_ne_self _⟩, fun b hb => ?_, q⟩
  have z : b = s1.heap.objs.size + 1 ∨ b = s1.heap.objs.size := by simpa using hb
  have hle : s1.heap.objs.size ≤ b := by
    rcases z with z | z
    · rw [z]; exact Nat.le_add_right _ _
    · rw [z]; exact Nat.le_refl _
  exact I1.fpOk hle (I1.hok.fresh hle)
theorem pi_enT (hg : Gl X "enumerate") (hm : X.mg "enumerate" = none) (ha : PA X [e] ta) (hs : starEach [e] X.env = [(false, eval e X.env)] := by rfl) :
    PI X (.Tuple elts kk tpos) (.Call (.Name "enumerate" p) [e] [] pos) (iEnT X.K ta) := by
  refine ⟨fun pins s σ G R I h => ?_⟩
  refine Call_ (ld_blt I hg hm boot_enumerate (PyProof.Rows.callWith_type1 (thn (ha.run pos pins s σ G _ I h) fun us s1 ⟨vs, G1, I1, r1, q1⟩ => ?_) hs rfl))
  obtain ⟨a, xs, ex, hq, q⟩ := q1
  subst ex
  cases r1 with
  | cons r rr =>
    cases rr
    cases r
    obtain ⟨its, rv, p', hz⟩ := I1.tuple hq
    refine kd_enum1 (begins_tuple a its.toArray) (show s1.heap.IsTuple a its.toArray from p') fun h' he hit hsz hk => wpAny_pyIter_enum he (begun I1 he hit hk q)
theorem callWith_typeK {M : Model} {A : Around} {E : Value → Shared → Prop} {s : Shared} {env : Env} {T : String} {e : Expr} {rest : List Expr} {kws : List Keyword} {Q : Value → Shared → Prop}
    (h : wpAny M A (spliced (backTo pos (starEach (e :: rest) env))) (fun vs s1 => wpAny M A (evalAll ((backToKw pos (keywordEach kws env)).map (·.2)))
      (fun kvs s2 => wpAny M A (call (.type T) vs (((backToKw pos (keywordEach kws env)).filterMap (·.1)).zip kvs)) Q E s2) E s1) E s)
    (he : backTo pos (starEach (e :: rest) env) = (false, eval e env) :: backTo pos (starEach rest env) := by rfl)
    (hplain : (backTo pos (starEach (e :: rest) env)).any (·.1) = false := by rfl)
    (hall : (backToKw pos (keywordEach kws env)).all (·.1.isSome) = true := by rfl)
    (hkw : (backToKw pos (keywordEach kws env)).any (·.1.isNone) = false := by rfl) :
    wpAny M A (callWith pos (.type T) [] (backTo pos (starEach (e :: rest) env)) (backToKw pos (keywordEach kws env))) Q E s := by
  unfold callWith
  have hE : wpAny M A (evalArgs (.type T) true (backTo pos (starEach (e :: rest) env)) (backToKw pos (keywordEach kws env))) (fun a s1 => wpAny M A (call (.type T) ([] ++ a.pos) a.kw) Q E s1) E s := by
    rw [he] at h ⊢
    exact PyProof.Rows.evalArgs_kwB hall h
  refine wpAny_bind (wpAny_holding (wpAny_mono hE (fun a s1 g1 => wpAny_bind (wpAny_standAt ?_)) fun _ _ x => x))
  simp only [hplain, hkw, Bool.or_false]
  refine wpAny_bind (wpAny_pure ?_)
  exact wpAny_bind (wpAny_mono g1 (fun r s2 hr => wpAny_bind (wpAny_holding (wpAny_point (wpAny_pure hr)))) fun _ _ x => x)
theorem pi_enTS (hg : Gl X "enumerate") (hm : X.mg "enumerate" = none) (ha : PA X [e] ta) (hk : PK X kws tk)
    (hks : (backToKw pos (keywordEach kws X.env)).filterMap (·.1) = [("start" : Str)] := by rfl)
    (he : backTo pos (starEach [e] X.env) = (false, eval e X.env) :: backTo pos (starEach [] X.env) := by rfl)
    (hplain : (backTo pos (starEach [e] X.env)).any (·.1) = false := by rfl)
    (hall : (backToKw pos (keywordEach kws X.env)).all (·.1.isSome) = true := by rfl)
    (hkw : (backToKw pos (keywordEach kws X.env)).any (·.1.isNone) = false := by rfl) :
    PI X (.Tuple elts kk tpos) (.Call (.Name "enumerate" p) [e] kws pos) (iEnTS X.K ta tk) := by
  refine ⟨fun pins s σ G R I h => ?_⟩
  refine wpAny_Call_Name_kw (ld_blt I hg hm boot_enumerate ?_)
  refine callWith_typeK (thn (ha.run pos pins s σ G _ I h) fun us s1 ⟨vs, G1, I1, r1, q1⟩ => thn (hk.run pos pins s1 σ G1 _ I1 q1) fun ws s2 ⟨zs, G2, I2, r2, q2⟩ => ?_) he hplain hall hkw
  rw [hks]
  obtain ⟨a, xs, c, ex, ez, c0, c1, hq, q⟩ := q2
  subst ex ez
  cases r1 with
  | cons r rr =>
    cases rr
    cases r
    cases r2 with
    | cons t tt =>
      cases tt
      obtain ⟨t0, rfl⟩ := t
      obtain ⟨its, rv, p', hz⟩ := I2.tuple hq
      exact enum_begins_start (begins_tuple a its.toArray) (show s2.heap.IsTuple a its.toArray from p') c0 c1 fun h' he hit hsz hk => wpAny_pyIter_enum he (begun I2 he hit hk q)
end
theorem walk_ity {K : PySem.W.Frag} {a : Addr} {xs : List V} {c : Int} : Walk (Ity K a c) xs.length (fun G => SqT K G a xs) (YPair (fun i => some (.int (c + (i : Nat)))) (fun i => xs[i]?)) := by
  refine ⟨fun i _ hi q => ⟨xs, xs[i], q, by simp [hi]⟩, fun _ q => ⟨xs, q, Nat.le_refl _⟩, fun i G v G' _ q y => ?_⟩
  obtain ⟨t, x, h1, h2, h3, h4⟩ := y
  exact ⟨t, .int (c + (i : Nat)), x, h1, h2, h3, rfl, h4 xs q⟩
section
variable {X : Cx}
/-- sorted(d), its keys ints, any number of them -/
theorem call_sortedDA (hcalm : X.calm = true) : CallR X (.builtin "sorted") (fun xs G Q => ∃ (a : Addr) (kvs : List (Key × V)) (ks : List Int), xs = [.ref a] ∧ Rd G a (.dK kvs) ∧ kvs.map (·.1) = ks.map Sum.inl ∧
    ∀ (ys : List Int) (p : Addr), ys.Perm ks → ys.Pairwise (· ≤ ·) → G p = none → Q (.ref p) (upd G p (.lst (ys.map V.int)))) := by
  intro pins s σ G xs us Q I r q
  obtain ⟨a, kvs, ks, ex, hd, hks, q⟩ := q
  subst ex
  obtain ⟨u, eu, rx⟩ := vals1 r
  subst eu
  cases rx
  obtain ⟨z, lo, vs, rel, dd⟩ := dk_rd I.hok hd
  obtain ⟨ep, hat⟩ := dd.dictAt
  have hkeys : vs.map (·.1) = ks.map Sum.inl := rel.keys.symm.trans hks
  have hl : vs.length = ks.length := by
    have e := congrArg List.length hkeys
    rw [List.length_map, List.length_map] at e
    exact e
  have zv : vs.length ≤ sizeLine := by rw [← rel.length]; exact z
  refine Calls.call_function_entry PyProof.Rows.kind_sorted PyProof.Rows.plain_sorted PyProof.Rows.entry_sorted (PyProof.Rows.args_sorted1 _) ?_
  unfold Builtin.«sorted»
  refine wpAny_bind (m := checkCount "sorted" 1 1 _) (wpAny_pure ?_)
  refine wpAny_bind (PySem.W.kdu_collect (A := X.A.in1) (PySem.W.kdl_dict (knd := mixKind X.prog X.w) (kvs := vs) (ep := ep) lo) (I.ok.hd hcalm) hat zv fun h' tk acc hk hacc => ?_)
  have hal : acc.toList.length = ks.length := by rw [Array.length_toList, hacc.1, hl]
  have hS : IntsAre acc.toList ks := ints_each hal fun j v e => by
    obtain ⟨k, x, e1, e2⟩ := hacc.2 j v (by rw [← Array.getElem?_toList]; exact e)
    have e3 : (vs.map (·.1))[j]? = some k := by rw [List.getElem?_map, e1]; rfl
    rw [hkeys, List.getElem?_map] at e3
    cases e4 : ks[j]? with
    | none => rw [e4] at e3; cases e3
    | some y =>
      rw [e4] at e3
      have e5 : Sum.inl y = k := Option.some.inj e3
      subst e5
      rcases keyIs_shape (show keyIs (Sum.inl y) v = true from e2) with ⟨i, t, ek, ev⟩ | ⟨zz, t, ek, ev⟩
      · cases ek
        exact ⟨y, t, rfl, ev⟩
      · cases ek
  have I1 : Inv X pins σ G { s with heap := h', toks := tk } := I.kept hk
  have hsz : acc.toList.length ≤ sizeLine := by rw [hal, ← hl]; exact zv
  refine wpAny_bind (wpAny_newList ?_ hsz)
  have hoL : (h'.push (seqObj "list" acc.toList.toArray 0)).get? h'.objs.size = some (seqObj "list" acc.toList.toArray 0) := Heap.get?_push_size _ rfl
  show wpAny _ _ _ _ _ { s with heap := h'.push (seqObj "list" acc.toList.toArray 0), toks := tk }
  refine wpAny_bind (wpAny_holding (wpAny_call_entry PyProof.Rows.slot_list_sort ⟨_, hoL, rfl⟩ PyProof.Rows.entry_list_sort
    (SrtO.list_sort_ord (s := { s with heap := h'.push (seqObj "list" acc.toList.toArray 0), toks := tk }) SrtO.swo_int hoL hsz (fun h2 => SrtO.ints_sortable hS h2) fun out g1 g2 => ⟨_, rfl, ?_⟩) (PyProof.Rows.args_list_sort _)))
  obtain ⟨k1, k2, k3⟩ := SrtO.ints_out hS g1 g2
  obtain ⟨e', he'⟩ := PyProof.Rows.sortedHeap_at (vs := acc.toList) (out := out.toArray) hoL
  have hlen : ((out.map SrtO.iv).map V.int).length ≤ sizeLine := by
    rw [List.length_map, k2.length_eq, ← hal]
    exact hsz
  refine wpAny_pure ⟨_, rfl, .ref h'.objs.size, upd G h'.objs.size (.lst ((out.map SrtO.iv).map V.int)), I1.laid (t' := tk) (fun b u e => ?_) (Nat.le_refl _)
    (show ObjOk X.prog X.w _ _ _ (.lst ((out.map SrtO.iv).map V.int)) from ⟨hlen, out, e', vals_of_ints k1, he'⟩), rfl, q _ _ k2 k3 (I1.hok.fresh (Nat.le_refl _))⟩
  have hb : b < h'.objs.size := Heap.lt_size e
  rw [PyProof.Rows.sortedHeap_old (Nat.ne_of_lt hb) (by rw [size_push']; exact Nat.lt_succ_of_lt hb)]
  exact Heap.get?_push_of_some _ e
/-! ### plain tuples, whose objects are known; dict of one -/
def FzT (G : Hp) (a : Addr) (ys : List V) : Prop := ∃ ob : Obj, ob.dict = none ∧ G a = some (.frz ob (.tup ys))
theorem FzT.sq {K : PySem.W.Frag} {G : Hp} {a : Addr} {ys : List V} (h : FzT G a ys) : SqT K G a ys := by
  obtain ⟨ob, _, e⟩ := h
  exact .inl (.inr ⟨ob, e⟩)
/-- tuple(xs), xs a list -/
theorem call_tupleFz : CallR X (.type "tuple") (fun xs G Q => ∃ p ys, xs = [.ref p] ∧ SqL X.K G p ys ∧ ∀ l ob, G l = none → ob.dict = none → Q (.ref l) (upd G l (.frz ob (.tup ys)))) := by
  intro pins s σ G xs us Q I r h
  obtain ⟨p, ys, rfl, hq, q⟩ := h
  obtain ⟨u, rfl, rx⟩ := vals1 r
  cases rx
  obtain ⟨its, r', pl, hz⟩ := I.list hq
  have hlen := r'.length
  refine call_tuple_list pl.isList (fun h' kp => ?_) (by simp only [List.size_toArray] <;> omega)
  have I1 : Inv X pins σ G { s with heap := h' } := I.kept (t' := s.toks) kp
  have I2 : Inv X pins σ (upd G h'.objs.size (.frz { cls := .type "tuple", data := .seq its.toArray } (.tup ys))) { s with heap := h'.push { cls := .type "tuple", data := .seq its.toArray } } :=
    I1.laid (t' := s.toks) (fun b o e => Heap.get?_push_of_some _ e) (Nat.le_refl _) (show ObjOk X.prog X.w _ _ _ (.frz { cls := .type "tuple", data := .seq its.toArray } (.tup ys)) from ⟨Heap.get?_push_size _ rfl, hz, its, r', IsTup.new _ _⟩)
  exact ⟨.ref h'.objs.size, _, I2, rfl, q _ _ (I1.hok.fresh (Nat.le_refl _)) rfl⟩
theorem pairs_both {pins : List (Addr × Obj)} {σ : L2.St} {G : Hp} {s : Shared} (I : Inv X pins σ G s) : ∀ {ps : List Addr} {kvs : List (Key × V)}, Paired (fun p kv => SqT X.K G p [kV kv.1, kv.2]) ps kvs →
    ∃ (prs : List (Key × Value)) (ks : List (Value × Value)), KV kvs prs ∧ prs.length = ps.length ∧ ks.length = ps.length ∧
      ∀ (j : Nat) (k v : Value), ks[j]? = some (k, v) → ∃ (b : Addr) (y : Key), ps[j]? = some b ∧ IsTup s.heap b #[k, v] ∧ prs[j]? = some (y, v) ∧ keyIs y k = true
  | _, _, .nil => ⟨[], [], .nil, rfl, rfl, fun j _ _ e => by simp at e⟩
  | _, _, .cons (a := p) (b := kv) h t => by
    obtain ⟨prs, ks, rr, l1, l2, hp⟩ := pairs_both I t
    obtain ⟨its, rv, ht, _⟩ := I.tuple h
    obtain ⟨u, y, ei, ru, ry⟩ := vals2 rv
    subst ei
    refine ⟨(kv.1, y) :: prs, (u, y) :: ks, .cons ⟨rfl, ry⟩ rr, by rw [List.length_cons, List.length_cons, l1], by rw [List.length_cons, List.length_cons, l2], fun j k v e => ?_⟩
    cases j with
    | zero =>
      have e' : (u, y) = (k, v) := Option.some.inj e
      cases e'
      exact ⟨p, kv.1, rfl, ht, rfl, kV_is (P := X.prog) (w := X.w) ru⟩
    | succ j =>
      obtain ⟨b, z, e1, e2, e3, e4⟩ := hp j k v (by simpa using e)
      exact ⟨b, z, by simpa using e1, e2, by simpa using e3, e4⟩
/-- dict(t), t a plain tuple of pairs -/
theorem call_dictFz (hcalm : X.calm = true) : CallR X (.type "dict") (fun xs G Q => ∃ (a : Addr) (ps : List Addr) (kvs : List (Key × V)), xs = [.ref a] ∧ FzT G a (ps.map V.ref) ∧ Paired (fun p kv => SqT X.K G p [kV kv.1, kv.2]) ps kvs ∧
    ∀ p, G p = none → Q (.ref p) (upd G p (.dK (mergeK [] kvs)))) := by
  intro pins s σ G xs us Q I r q
  obtain ⟨a, ps, kvs, rfl, ⟨ob, od, ha⟩, hp, q⟩ := q
  obtain ⟨u, rfl, rx⟩ := vals1 r
  cases rx
  obtain ⟨hget, hz, its, rv, o2, g1, g2, n, g3⟩ := (show ObjOk X.prog X.w G s.heap a (.frz ob (.tup (ps.map V.ref))) from I.hok a _ ha)
  rw [hget] at g1
  cases g1
  have ei := refs_at rv
  subst ei
  rw [List.length_map] at hz
  obtain ⟨prs, ks, rel, l1, l2, hpr⟩ := pairs_both I hp
  have ok : PlainSeq "tuple" s.heap a (ps.map Value.ref).toArray ∧ PairItems s.heap (ps.map Value.ref).toArray (fun j => ps.getD j 0) ks := by
    refine ⟨⟨ob, n, hget, g2, od, g3⟩, by simp [l2], fun j k v e => ?_⟩
    obtain ⟨b, y, e1, e2, e3, e4⟩ := hpr j k v e
    have eb : ps.getD j 0 = b := by
      rw [List.getD_eq_getElem?_getD, e1]
      rfl
    show _ = some (Value.ref (ps.getD j 0)) ∧ PairAt s.heap (ps.getD j 0) k v
    rw [eb]
    exact ⟨by simp [e1], .inl e2⟩
  refine PySem.call_dict_pairs (knd := mixKind X.prog X.w) (kvs := prs) (PairArg.tuple a _ (fun j => ps.getD j 0) ks) (I.ok.hd hcalm) ok ⟨by rw [l1, l2], fun j k v e => ?_⟩ (by rw [l2]; exact hz) fun h' tk hd' kk => ?_
  · obtain ⟨b, y, e1, e2, e3, e4⟩ := hpr j k v e
    exact ⟨y, e3, e4⟩
  · have hm : (s.heap.objs.size == sysModules) = false := beq_eq_false_iff_ne.mpr (Nat.ne_of_gt I.big)
    have hlen : (mergeK [] kvs).length ≤ sizeLine := by
      refine Nat.le_trans (length_mergeK kvs []) ?_
      rw [List.length_nil, Nat.zero_add, rel.length, l1]
      exact hz
    exact ⟨.ref s.heap.objs.size, upd G s.heap.objs.size (.dK (mergeK [] kvs)), I.laid (t' := tk) (fun b o e => kk b o (fun z => nomatch z) e) (Nat.le_refl _) (show ObjOk X.prog X.w _ _ _ (.dK (mergeK [] kvs)) from ⟨hlen, hm, merged [] prs, KV.merge rel .nil, hd'⟩), rfl, q _ (I.hok.fresh (Nat.le_refl _))⟩
end
end KD
set_option maxRecDepth 100000
set_option maxHeartbeats 4000000
/-! A range that is kept, walked; a comprehension of two clauses. -/
namespace KU
open PySem PySem.Spec PyProof.Rows L2
def iRngV (te : TE) : TI := fun σ H R => te σ H fun x H1 => ∃ (a : Addr) (lo hi : Int), x = .ref a ∧ H1 a = some (.rng lo hi) ∧ (-(2 ^ 62) ≤ lo ∧ lo < 2 ^ 62 ∧ -(2 ^ 62) ≤ hi ∧ hi < 2 ^ 62) ∧ R (Itr lo (hi - lo).toNat) H1
theorem pi_rngV {X : Cx} {tg e : Expr} {te : TE} (he : PE X e te) : PI X tg e (iRngV te) := by
  refine ⟨fun pn st σ' H0 R J h => ?_⟩
  refine thn (he.run pn st σ' H0 _ J h) fun v s1 ⟨x, H1, J1, rl, asks⟩ => ?_
  obtain ⟨a, lo, hi, ex, hrg, ⟨b1, b2, b3, b4⟩, q⟩ := asks
  subst ex
  cases rl
  obtain ⟨t, u, v, hget⟩ := J1.hok a _ hrg
  refine wpAny_pyIter_range (a := lo) (b := hi) (c := 1) (t := t) (u := u) (v := v) hget (small_one b1 b2 b3 b4) ?_
  refine ⟨s1.heap.objs.size, [s1.heap.objs.size], _, _, H1, rfl, J1.kept (t' := s1.toks) (fun c o g => Heap.get?_push_of_some _ g), turn_range _ lo (hi - lo).toNat, ?_, fun c hc => ?_, q⟩
  · have g1 : lo + ((0 : Nat) : Int) * 1 = lo := by simp
    have g2 : (((hi - lo).toNat : Nat) : Int) - ((0 : Nat) : Int) = Builtin.Range.rangeSize lo hi 1 := by rw [rangeSize_one]; split <;> omega
    show IsRangeIter _ _ (lo + ((0 : Nat) : Int) * 1) ((((hi - lo).toNat : Nat) : Int) - ((0 : Nat) : Int)) 1
    rw [g1, g2]
    exact (Heap.get?_push_size _ rfl)
  · have g : c = s1.heap.objs.size := by simpa using hc
    subst g
    exact (J1.fpOk (Nat.le_refl _) (J1.hok.fresh (Nat.le_refl _)))
/-- the inner loop of a comprehension of two clauses -/
theorem lc_in {J : It} {n : Nat} {G : Hp → Prop} {Y : Nat → Hp → V → Hp → Prop} (wk : Walk J n G Y) {g : TG} {tt : TT} {te : TE} {vs : List Nat} {σ : L2.St} {H1 : Hp} {D : Addr} {Qd : Hp → Prop} (Pv : Nat → Hp → Prop) (h0 : Pv 0 H1) (hG : ∀ i H, i ≤ n → Pv i H → G H)
    (hs : ∀ i x H H', i < n → Pv i H → Y i H x H' → g x (wipe σ vs) H' fun σ2 H2 => wipe σ2 vs = wipe σ vs ∧ tt σ2 H2 fun b H3 =>
      if b = true then te σ2 H3 fun y H4 => ∃ acc, H4 D = some (.lst acc) ∧ acc.length < sizeLine ∧ Pv (i + 1) (upd H4 D (.lst (acc ++ [y]))) else Pv (i + 1) H3) (hd : ∀ H, Pv n H → Qd H) :
    ∃ W : Nat → Nat → Hp → Prop, (∃ m, W 0 m H1) ∧ ∀ i m H, W i m H →
      (J.stop i H ∧ Qd H) ∨ (J.go i H ∧ ∃ Nx : Hp → Prop, (∀ H', Nx H' → ∃ m', m' < m ∧ W (i + 1) m' H') ∧ ∀ x H', J.yld i H x H' → g x (wipe σ vs) H' fun σ2 H2 => wipe σ2 vs = wipe σ vs ∧ tt σ2 H2 fun b H3 =>
        if b = true then te σ2 H3 fun y H4 => ∃ acc, H4 D = some (.lst acc) ∧ acc.length < sizeLine ∧ Nx (upd H4 D (.lst (acc ++ [y]))) else Nx H3) := by
  refine ⟨fun i m H => m = n - i ∧ (i ≤ n ∧ Pv i H), ⟨n - 0, rfl, Nat.zero_le _, h0⟩, fun i m H hW => ?_⟩
  obtain ⟨rfl, hi, pv⟩ := hW
  rcases Nat.lt_or_ge i n with hlt | hge
  · exact .inr ⟨wk.goes i H hlt (hG i H hi pv), Pv (i + 1), fun H' p' => ⟨n - (i + 1), by omega, rfl, hlt, p'⟩, fun x H' y => hs i x H H' hlt pv (wk.yields i H x H' hlt (hG i H hi pv) y)⟩
  · obtain rfl : i = n := by omega
    exact .inl ⟨wk.stops H (hG i H hi pv), hd H pv⟩
/-- the outer one, told from what the body asks -/
theorem lc_out {J : It} {n : Nat} {G : Hp → Prop} {Y : Nat → Hp → V → Hp → Prop} (wk : Walk J n G Y) {H1 : Hp} {Qd : Hp → Prop} {B : (Hp → Prop) → V → Hp → Prop} (Pv : Nat → Hp → Prop) (h0 : Pv 0 H1) (hG : ∀ i H, i ≤ n → Pv i H → G H)
    (hs : ∀ i x H H', i < n → Pv i H → Y i H x H' → B (Pv (i + 1)) x H') (hd : ∀ H, Pv n H → Qd H) :
    ∃ W : Nat → Nat → Hp → Prop, (∃ m, W 0 m H1) ∧ ∀ i m H, W i m H → (J.stop i H ∧ Qd H) ∨ (J.go i H ∧ ∃ Nx : Hp → Prop, (∀ H', Nx H' → ∃ m', m' < m ∧ W (i + 1) m' H') ∧ ∀ x H', J.yld i H x H' → B Nx x H') := by
  refine ⟨fun i m H => m = n - i ∧ (i ≤ n ∧ Pv i H), ⟨n - 0, rfl, Nat.zero_le _, h0⟩, fun i m H hW => ?_⟩
  obtain ⟨rfl, hi, pv⟩ := hW
  rcases Nat.lt_or_ge i n with hlt | hge
  · exact .inr ⟨wk.goes i H hlt (hG i H hi pv), Pv (i + 1), fun H' p' => ⟨n - (i + 1), by omega, rfl, hlt, p'⟩, fun x H' y => hs i x H H' hlt pv (wk.yields i H x H' hlt (hG i H hi pv) y)⟩
  · obtain rfl : i = n := by omega
    exact .inl ⟨wk.stops H (hG i H hi pv), hd H pv⟩
end KU
set_option maxRecDepth 100000
set_option maxHeartbeats 4000000
/-! xs[i] += e; the draws. -/
namespace KP
open PySem PySem.Spec PyProof.Rows L2
section
variable {X : Cx}
def rIxN (K : PySem.W.Frag) : V → V → Hp → VK → Prop := fun x y H Q => ∃ (a : Addr) (xs : List V) (j : Nat) (z : V), x = .ref a ∧ y = .int (j : Int) ∧ SqL K H a xs ∧ xs[j]? = some z ∧ Q z H
theorem get_list : PGet X (rIxN X.K) := by
  intro pn st σ' H1 x y vx vy Q1 J rel1 rel2 asks
  obtain ⟨a, xs, j, z, rfl, rfl, sq, hat, q⟩ := asks
  cases rel1
  obtain ⟨tk, rfl⟩ := rel2
  obtain ⟨its, rl, il, hsz⟩ := J.list sq
  have hj : j < xs.length := (List.getElem?_eq_some_iff.mp hat).1
  obtain ⟨u, hu, ru⟩ := rl.get hat
  have hl := rl.length
  have big := line63
  exact wpAny_getItem_list il.isList (Int.natCast_nonneg j) (by omega) (by rw [Int.toNat_natCast]; simpa using hu) ⟨z, H1, J, ru, q⟩
end
end KP
namespace K22
open PySem PySem.Spec PyProof.Rows L2 KF KD KP
theorem seq_cut {a b : TS} {D : Ends} {σ : L2.St} {H : Hp} (Pv : L2.St → Hp → Prop) (hb : ∀ σ' H', Pv σ' H' → b D σ' H') (ha : ∀ R : L2.St → Hp → Prop, (∀ σ' H', Pv σ' H' → R σ' H') → a { D with nx := R } σ H) : tSeq a b D σ H := ha _ hb
theorem at0 {x : V} {xs : List V} : atI (x :: xs) 0 = some x := atI_nat (j := 0) rfl
theorem at1 {x y : V} {xs : List V} : atI (x :: y :: xs) 1 = some y := atI_nat (j := 1) rfl
theorem at2 {x y z : V} {xs : List V} : atI (x :: y :: z :: xs) 2 = some z := atI_nat (j := 2) rfl
/-- the pot of draws at d -/
def Pot (H : Hp) (d : Addr) : Prop := ∃ (r m i : Int) (cs : List Int), H d = some (.lst (.int r :: .int m :: .int i :: cs.map V.int)) ∧ 0 ≤ r ∧ 0 ≤ m ∧ m < 2147483647 ∧ 3 ≤ i ∧ i ≤ 100 ∧ cs.length ≤ 63
theorem Pot.lst {H : Hp} {d : Addr} (h : Pot H d) : ∃ xs, H d = some (.lst xs) := by
  obtain ⟨_, _, _, _, h, _⟩ := h
  exact ⟨_, h⟩
theorem Pot.keep {H H' : Hp} {d : Addr} (h : Pot H d) (e : H' d = H d) : Pot H' d := by
  obtain ⟨r, m, i, cs, h0, h1⟩ := h
  exact ⟨r, m, i, cs, by rw [e]; exact h0, h1⟩
theorem Pot.same {H H' : Hp} {d : Addr} (h : Pot H d) (e : Same H H') : Pot H' d := by
  obtain ⟨r, m, i, cs, h0, h1⟩ := h
  exact ⟨r, m, i, cs, e _ _ h0, h1⟩
section
variable {P : Program} {w : World} {K : PySem.W.Frag} {mg : Str → Option Value} {base : Heap}
def spTake : Sp := fun vs H Q _ => ∃ (d : Addr) (m : Int), vs = [.ref d, .int m] ∧ 0 < m ∧ m < 1000000000000 ∧ Pot H d ∧ ∀ (x : Int) H', 0 ≤ x → x < m → Frm d H H' → Pot H' d → Q (.int x) H'
theorem scT : FnScope ["pot", "many", "cell", "mixed", "found"] ["pot", "many"] (defScope s_law_take) := ⟨rfl, rfl, rfl, by decide +kernel, rfl, by decide +kernel, by decide +kernel⟩
theorem ok_law_take (T : Txt K w mg) : FnOk P w K mg base CX0 1 (He.fAd K ("_law_take", none)) (fdAt K (He.fAd K ("_law_take", none))) ["pot", "many"] spTake := by
  refine T.F_law_take.ok scT (fun vs H Q E h => ?_) (fun cdv A outer s H vs Q E hr h => ?_)
  · obtain ⟨d, m, rfl, _⟩ := h
    rfl
  · obtain ⟨d, m, rfl, hm0, hm1, hp, k⟩ := h
    refine ⟨_, PSs.nox (pss_cons (ps_if (PW.pt (pw_and (pt_cmpR op_eq (pe_ix (r := rIxL K) ix_list (pv 0) pe_int (fun _ _ => rfl)) pe_int (nomark _)) (pw_and1 (pt_cmpR op_lt (pe_ix (r := rIxL K) ix_list (pv 0) pe_int (fun _ _ => rfl)) (pe_callB (r := Evl.rLenS K) call_len_seq (by rfl) T.n_len PyProof.Rows.Boot.«len» (pa_cons (pv 0) pa_nil)) (nomark _))))) (pss_cons (ps_set (i := 2) scT.nd rfl (Or.inl rfl) (pe_ix (r := rIxL K) ix_list (pv 0) (pe_ix (r := rIxL K) ix_list (pv 0) pe_int (fun _ _ => rfl)) (fun _ _ => rfl)))
      (pss_cons (ps_augS (pv 0) pe_int KP.get_list pe_int ip_add set_list)
      (pss_one (ps_if (pt_cmpR op_ge (pv 2) (pe_op op_pow pe_int pe_int) (nomark _)) (pss_one (ps_asg (pe_op op_sub (pv 2) (pe_op op_pow pe_int pe_int)) (pg_sub (pv 0) pe_int set_list))) (pss_cons (ps_set (i := 3) scT.nd rfl (Or.inl rfl) (pe_op op_mod (pe_callTy call_int1 (by rfl) T.n_int PyProof.Rows.Boot.«int» (pa_cons (pv 2) pa_nil)) pe_int))
      (pss_cons (ps_set (i := 3) scT.nd rfl (Or.inl rfl) (pe_op op_mod (pe_callTy call_int1 (by rfl) T.n_int PyProof.Rows.Boot.«int» (pa_cons (pe_op op_add (pe_op op_add (pe_op op_mulW (pv 3) (pv 3)) (pe_op op_mulW pe_int (pv 3))) (pe_op op_mulW pe_int (pe_ix (r := rIxL K) ix_list (pv 0) pe_int (fun _ _ => rfl)))) pa_nil)) pe_int))
      (pss_one (ps_asg (pe_op op_mod (pe_callTy call_int1 (by rfl) T.n_int PyProof.Rows.Boot.«int» (pa_cons (pe_op op_add (pe_ix (r := rIxL K) ix_list (pv 0) pe_int (fun _ _ => rfl)) (pv 3)) pa_nil)) pe_int) (pg_sub (pv 0) pe_int set_list))))))))) pss_nil)
      (pss_cons (ps_if (pt_cmpR op_gt (pe_ix (r := rIxL K) ix_list (pv 0) pe_int (fun _ _ => rfl)) pe_int (nomark _)) (pss_cons (ps_set (i := 4) scT.nd rfl (Or.inl rfl) (pe_op op_mod (pe_callTy call_int1 (by rfl) T.n_int PyProof.Rows.Boot.«int» (pa_cons (pe_ix (r := rIxL K) ix_list (pv 0) pe_int (fun _ _ => rfl)) pa_nil)) (pv 1)))
      (pss_cons (ps_asg (pe_op op_fdivW (pe_ix (r := rIxL K) ix_list (pv 0) pe_int (fun _ _ => rfl)) (pv 1)) (pg_sub (pv 0) pe_int set_list))
      (pss_one (ps_ret (pv 4))))) pss_nil)
      (pss_cons (ps_asg (pe_op op_mod (pe_callTy call_int1 (by rfl) T.n_int PyProof.Rows.Boot.«int» (pa_cons (pe_op op_add (pe_op op_add (pe_op op_mulW (pe_ix (r := rIxL K) ix_list (pv 0) pe_int (fun _ _ => rfl)) pe_int) (pe_op op_mulW pe_int (pe_ix (r := rIxL K) ix_list (pv 0) pe_int (fun _ _ => rfl)))) pe_int) pa_nil)) pe_int) (pg_sub (pv 0) pe_int set_list))
      (pss_cons (ps_asg (pe_op op_mod (pe_callTy call_int1 (by rfl) T.n_int PyProof.Rows.Boot.«int» (pa_cons (pe_op op_add (pe_op op_mulW (pe_ix (r := rIxL K) ix_list (pv 0) pe_int (fun _ _ => rfl)) (pe_ix (r := rIxL K) ix_list (pv 0) pe_int (fun _ _ => rfl))) pe_int) pa_nil)) pe_int) (pg_sub (pv 0) pe_int set_list))
      (pss_one (ps_ret (pe_op op_mod (pe_callTy call_int1 (by rfl) T.n_int PyProof.Rows.Boot.«int» (pa_cons (pe_op op_fdivW (pe_ix (r := rIxL K) ix_list (pv 0) pe_int (fun _ _ => rfl)) pe_int) pa_nil)) (pv 1)))))))), ?_⟩
    obtain ⟨r, mm, i, cs, hd, r0, m0, m1, i3, i100, hcs⟩ := hp
    have hW : CDivW 0 m := wide_div hm0 (small_ab (n := 40) (by omega) (by rw [pow40]; omega)) (by decide) (by decide)
    have z3 : ∀ (a b c : V) (xs : List V), ixN (a :: b :: c :: xs).length 0 = some 0 ∧ ixN (a :: b :: c :: xs).length 1 = some 1 ∧ ixN (a :: b :: c :: xs).length 2 = some 2 := fun a b c xs => by
      have h1 : (0 : Int) < (xs.length : Int) + 1 + 1 + 1 := by omega
      have h2 : (1 : Int) < (xs.length : Int) + 1 + 1 + 1 := by omega
      have h3 : (2 : Int) < (xs.length : Int) + 1 + 1 + 1 := by omega
      simp [ixN, h1, h2, h3]
    have sm : ∀ {x : Int}, 0 ≤ x → x < 2147483647 → x.natAbs < 2 ^ 40 := fun a b => small_ab a (by rw [pow40]; omega)
    refine seq_cut (fun σ' H' => ∃ (v2 v3 : Option V), σ' = [some (.ref d), some (.int m), v2, v3, none] ∧ Frm d H H' ∧ Pot H' d) (fun σ' H1 hP => ?_) (fun R hR => ?_)
    rotate_left
    · have keep := hR _ _ ⟨none, none, rfl, Frm.refl _ _, ⟨r, mm, i, cs, hd, r0, m0, m1, i3, i100, hcs⟩⟩
      refine ⟨_, rfl, d, _, _, _, rfl, rfl, SqL.of hd, at0, rfl, _, rfl, ite2 (fun _ => ?_) (fun _ => keep)⟩
      refine ⟨_, rfl, d, _, _, _, rfl, rfl, SqL.of hd, at2, _, rfl, d, _, rfl, .inl (SqL.of hd), _, _, rfl, rfl, _, rfl, ite2 (fun z => ?_) (fun _ => keep)⟩
      have hlt := of_decide_eq_true z
      rw [List.length_cons, List.length_cons, List.length_cons, List.length_map] at hlt
      obtain ⟨j, rfl⟩ : ∃ j : Nat, i = ((j + 3 : Nat) : Int) := ⟨(i - 3).toNat, by omega⟩
      have hj : j < cs.length := by omega
      obtain ⟨c, hc⟩ : ∃ c, c = cs[j] := ⟨_, rfl⟩
      have hat : (V.int r :: V.int mm :: V.int ((j + 3 : Nat) : Int) :: cs.map V.int)[j + 3]? = some (.int c) := by
        rw [List.getElem?_cons_succ, List.getElem?_cons_succ, List.getElem?_cons_succ, List.getElem?_map, List.getElem?_eq_getElem hj, hc]
        rfl
      refine ⟨_, rfl, _, rfl, d, _, _, _, rfl, rfl, SqL.of hd, at2, d, _, _, _, rfl, rfl, SqL.of hd, atI_nat hat, ?_⟩
      refine ⟨_, rfl, d, _, 2, _, rfl, rfl, SqL.of hd, rfl, _, _, rfl, rfl, d, _, 2, 2, rfl, rfl, hd, (z3 _ _ _ _).2.2, ?_⟩
      obtain ⟨i2, hi2⟩ : ∃ i2 : Int, i2 = ((j + 3 : Nat) : Int) + 1 := ⟨_, rfl⟩
      have hd2 : (upd H d (.lst (V.int r :: V.int mm :: V.int i2 :: cs.map V.int))) d = some (.lst (V.int r :: V.int mm :: V.int i2 :: cs.map V.int)) := upd_same
      dsimp only [List.set_cons_succ, List.set_cons_zero]
      rw [← hi2]
      have f2 : Frm d H (upd H d (.lst (V.int r :: V.int mm :: V.int i2 :: cs.map V.int))) := Frm.of_upd
      generalize upd H d (.lst (V.int r :: V.int mm :: V.int i2 :: cs.map V.int)) = H2 at hd2 f2 ⊢
      have hp18 : (10 : Int) ^ (18 : Int).toNat = 1000000000000000000 := by decide
      refine ⟨_, rfl, _, _, rfl, rfl, ⟨by decide, by decide, by decide⟩, _, _, rfl, rfl, _, rfl, ite2 (fun z => ?_) (fun z => ?_)⟩
      · have z := of_decide_eq_true z
        refine ⟨_, rfl, _, _, rfl, rfl, ⟨by decide, by decide, by decide⟩, _, _, rfl, rfl, _, rfl, d, _, 0, 0, rfl, rfl, hd2, (z3 _ _ _ _).1, ?_⟩
        exact hR _ _ ⟨_, _, rfl, f2.trans Frm.of_upd, ⟨_, mm, i2, cs, upd_same, by omega, m0, m1, by omega, by omega, hcs⟩⟩
      · refine ⟨_, rfl, .inl ⟨_, rfl, _, _, rfl, rfl, (show (0 : Int) < 2147483647 by decide), ?_⟩⟩
        have x0 := Int.emod_nonneg c (show (2147483647 : Int) ≠ 0 by decide)
        have x1 := Int.emod_lt_of_pos c (show (0 : Int) < 2147483647 by decide)
        obtain ⟨x, hx⟩ : ∃ x, x = c % 2147483647 := ⟨_, rfl⟩
        rw [← hx] at x0 x1
        show tSeq _ _ _ (List.set _ 3 (some (V.int (c % 2147483647)))) _
        rw [← hx]
        refine ⟨_, rfl, _, rfl, _, _, rfl, rfl, wide_mul (sm x0 x1) (sm x0 x1) (by decide) (by decide) (by decide), _, rfl, _, _, rfl, rfl, wide_mul (a := 40) (by decide) (sm x0 x1) (by decide) (by decide) (by decide), _, _, rfl, rfl, _, rfl, d, _, _, _, rfl, rfl, SqL.of hd2, at2, _, _, rfl, rfl, wide_mul (a := 40) (b := 40) (by decide) (sm (by omega) (by omega)) (by decide) (by decide) (by decide), _, _, rfl, rfl, .inl ⟨_, rfl, _, _, rfl, rfl, (show (0 : Int) < 2147483629 by decide), ?_⟩⟩
        obtain ⟨x2, hx2⟩ : ∃ x2, x2 = (x * x + 69621 * x + 977 * i2) % 2147483629 := ⟨_, rfl⟩
        dsimp only [gName]
        rw [← hx2]
        refine ⟨_, rfl, d, _, _, _, rfl, rfl, SqL.of hd2, at1, _, rfl, _, _, rfl, rfl, .inl ⟨_, rfl, _, _, rfl, rfl, (show (0 : Int) < 2147483629 by decide), _, rfl, d, _, 1, 1, rfl, rfl, hd2, (z3 _ _ _ _).2.1, ?_⟩⟩
        have e1 := Int.emod_nonneg (mm + x2) (show (2147483629 : Int) ≠ 0 by decide)
        have e2 := Int.emod_lt_of_pos (mm + x2) (show (0 : Int) < 2147483629 by decide)
        exact hR _ _ ⟨_, _, rfl, f2.trans Frm.of_upd, ⟨r, _, i2, cs, upd_same, r0, e1, by omega, by omega, by omega, hcs⟩⟩
    obtain ⟨v2, v3, rfl, f1, hp1⟩ := hP
    clear hd r0 m0 m1 i3 i100 hcs
    obtain ⟨r, mm, i, cs, hd, r0, m0, m1, i3, i100, hcs⟩ := hp1
    have em0 : ∀ z : Int, 0 ≤ z % m := fun z => Int.emod_nonneg _ (by omega)
    have em1 : ∀ z : Int, z % m < m := fun z => Int.emod_lt_of_pos _ hm0
    refine ⟨_, rfl, d, _, _, _, rfl, rfl, SqL.of hd, at0, _, _, rfl, rfl, _, rfl, ite2 (fun z => ?_) (fun z => ?_)⟩
    · have z := of_decide_eq_true z
      refine ⟨_, rfl, d, _, _, _, rfl, rfl, SqL.of hd, at0, .inl ⟨_, rfl, _, rfl, _, _, rfl, rfl, hm0, ?_⟩⟩
      refine ⟨_, rfl, d, _, _, _, rfl, rfl, SqL.of hd, at0, _, rfl, _, _, rfl, rfl, hW, _, rfl, d, _, 0, 0, rfl, rfl, hd, (z3 _ _ _ _).1, _, rfl, ?_⟩
      exact k _ _ (em0 _) (em1 _) (f1.trans Frm.of_upd) ⟨_, mm, i, cs, upd_same, Int.ediv_nonneg r0 (by omega), m0, m1, i3, i100, hcs⟩
    · refine ⟨_, rfl, d, _, _, _, rfl, rfl, SqL.of hd, at1, _, _, rfl, rfl, wide_mul (b := 40) (sm m0 m1) (by decide) (by decide) (by decide) (by decide), _, rfl, d, _, _, _, rfl, rfl, SqL.of hd, at2, _, _, rfl, rfl, wide_mul (a := 40) (b := 40) (by decide) (sm (by omega) (by omega)) (by decide) (by decide) (by decide), _, _, rfl, rfl, _, _, rfl, rfl, .inl ⟨_, rfl, _, _, rfl, rfl, (show (0 : Int) < 2147483647 by decide), _, rfl, d, _, 1, 1, rfl, rfl, hd, (z3 _ _ _ _).2.1, ?_⟩⟩
      have e1 := Int.emod_nonneg (mm * 48271 + 40692 * i + 11) (show (2147483647 : Int) ≠ 0 by decide)
      have e2 := Int.emod_lt_of_pos (mm * 48271 + 40692 * i + 11) (show (0 : Int) < 2147483647 by decide)
      obtain ⟨x, hx⟩ : ∃ x, x = (mm * 48271 + 40692 * i + 11) % 2147483647 := ⟨_, rfl⟩
      rw [← hx] at e1 e2
      have hd2 : (upd H1 d (.lst (V.int r :: V.int x :: V.int i :: cs.map V.int))) d = some (.lst (V.int r :: V.int x :: V.int i :: cs.map V.int)) := upd_same
      show tSeq _ _ _ _ (upd H1 d (.lst (V.int r :: V.int ((mm * 48271 + 40692 * i + 11) % 2147483647) :: V.int i :: cs.map V.int)))
      rw [← hx]
      have f2 : Frm d H1 (upd H1 d (.lst (V.int r :: V.int x :: V.int i :: cs.map V.int))) := Frm.of_upd
      generalize upd H1 d (.lst (V.int r :: V.int x :: V.int i :: cs.map V.int)) = H2 at hd2 f2 ⊢
      refine ⟨_, rfl, d, _, _, _, rfl, rfl, SqL.of hd2, at1, _, rfl, d, _, _, _, rfl, rfl, SqL.of hd2, at1, _, _, rfl, rfl, wide_mul (sm e1 e2) (sm e1 e2) (by decide) (by decide) (by decide), _, _, rfl, rfl, .inl ⟨_, rfl, _, _, rfl, rfl, (show (0 : Int) < 2147483629 by decide), _, rfl, d, _, 1, 1, rfl, rfl, hd2, (z3 _ _ _ _).2.1, ?_⟩⟩
      have g1 := Int.emod_nonneg (x * x + 7) (show (2147483629 : Int) ≠ 0 by decide)
      have g2 := Int.emod_lt_of_pos (x * x + 7) (show (0 : Int) < 2147483629 by decide)
      obtain ⟨y, hy⟩ : ∃ y, y = (x * x + 7) % 2147483629 := ⟨_, rfl⟩
      rw [← hy] at g1 g2
      have hd3 : (upd H2 d (.lst (V.int r :: V.int y :: V.int i :: cs.map V.int))) d = some (.lst (V.int r :: V.int y :: V.int i :: cs.map V.int)) := upd_same
      dsimp only [List.set_cons_succ, List.set_cons_zero]
      rw [← hy]
      have f3 : Frm d H2 (upd H2 d (.lst (V.int r :: V.int y :: V.int i :: cs.map V.int))) := Frm.of_upd
      generalize upd H2 d (.lst (V.int r :: V.int y :: V.int i :: cs.map V.int)) = H3 at hd3 f3 ⊢
      refine ⟨_, rfl, d, _, _, _, rfl, rfl, SqL.of hd3, at1, _, _, rfl, rfl, wide_div (b := 10) (by decide) (by decide) (by decide) (by decide), .inl ⟨_, rfl, _, rfl, _, _, rfl, rfl, hm0, ?_⟩⟩
      exact k _ _ (em0 _) (em1 _) (f1.trans (f2.trans f3)) ⟨r, y, i, cs, hd3, r0, g1, by omega, i3, i100, hcs⟩
end
end K22
set_option maxRecDepth 100000
set_option maxHeartbeats 4000000
/-! Boxes, kinds, the floor. -/
namespace K22
open PySem PySem.Spec PyProof.Rows L2 KF KD KP
/-! ### what a comprehension gathers -/
def Acc (H0 : Hp) (D : Addr) (l : List V) (H : Hp) : Prop := Same H0 H ∧ H D = some (.lst l)
def fl {α : Type} (p : List α) (q : α → Bool) (f : α → V) (i : Nat) : List V := ((p.take i).filter q).map f
theorem fl_len {α : Type} (p : List α) (q : α → Bool) (f : α → V) (i : Nat) : (fl p q f i).length ≤ p.length := by
  unfold fl
  rw [List.length_map]
  exact Nat.le_trans (List.length_filter_le _ _) (by rw [List.length_take]; omega)
theorem fl_yes {α : Type} {p : List α} {q : α → Bool} {f : α → V} {i : Nat} {x : α} (hx : p[i]? = some x) (hq : q x = true) : fl p q f (i + 1) = fl p q f i ++ [f x] := by
  unfold fl
  rw [List.take_add_one, hx, List.filter_append, List.map_append]
  simp [hq]
theorem fl_no {α : Type} {p : List α} {q : α → Bool} {f : α → V} {i : Nat} {x : α} (hx : p[i]? = some x) (hq : q x = false) : fl p q f (i + 1) = fl p q f i := by
  unfold fl
  rw [List.take_add_one, hx, List.filter_append, List.map_append]
  simp [hq]
theorem fl_all {α : Type} (p : List α) (q : α → Bool) (f : α → V) : fl p q f p.length = (p.filter q).map f := by
  unfold fl
  rw [List.take_length]
theorem fl_every {α : Type} (p : List α) (f : α → V) : fl p (fun _ => true) f p.length = p.map f := by
  rw [fl_all, List.filter_eq_self.mpr (fun _ _ => rfl)]
theorem fl_rng (n : Nat) (f : Nat → V) : fl (List.range n) (fun _ => true) f n = (List.range n).map f := by
  have h := fl_every (List.range n) f
  rwa [List.length_range] at h
theorem fl_rngq (n : Nat) (q : Nat → Bool) (f : Nat → V) : fl (List.range n) q f n = ((List.range n).filter q).map f := by
  have h := fl_all (List.range n) q f
  rwa [List.length_range] at h
theorem acc_yes {α : Type} {p : List α} {q : α → Bool} {f : α → V} {i : Nat} {x : α} {H0 H H4 : Hp} {D : Addr} (hD : H0 D = none) (h : Acc H0 D (fl p q f i) H) (s : Same H H4) (hx : p[i]? = some x) (hq : q x = true) (hp : p.length ≤ 1000) :
    ∃ acc, H4 D = some (.lst acc) ∧ acc.length < sizeLine ∧ Acc H0 D (fl p q f (i + 1)) (upd H4 D (.lst (acc ++ [f x]))) := by
  refine ⟨_, s _ _ h.2, Nat.lt_of_le_of_lt (fl_len _ _ _ _) (Nat.lt_of_le_of_lt hp (by decide)), fun b o z => ?_, ?_⟩
  · rw [upd_ne (ne_of_none z hD)]
    exact s _ _ (h.1 _ _ z)
  · rw [upd_same, fl_yes hx hq]
theorem acc_no {α : Type} {p : List α} {q : α → Bool} {f : α → V} {i : Nat} {x : α} {H0 H H4 : Hp} {D : Addr} (h : Acc H0 D (fl p q f i) H) (s : Same H H4) (hx : p[i]? = some x) (hq : q x = false) : Acc H0 D (fl p q f (i + 1)) H4 := by
  rw [Acc, fl_no hx hq]
  exact ⟨h.1.trans s, s _ _ h.2⟩
theorem acc_0 {α : Type} {p : List α} {q : α → Bool} {f : α → V} {H0 : Hp} {D : Addr} (hD : H0 D = none) : Acc H0 D (fl p q f 0) (upd H0 D (.lst [])) := ⟨new_same hD, upd_same⟩
theorem rng_at {n i : Nat} (h : i < n) : (List.range n)[i]? = some i := by simp [h]
theorem walk_r0 {n : Nat} : Walk (Itr 0 n) n (fun _ => True) (YFn fun i => .int ((i : Nat) : Int)) := by
  have h := walk_range (lo := 0) (n := n)
  simpa [Int.zero_add] using h
/-! ### what is drawn -/
structure Bx where
  x : Int
  y : Int
  w : Int
  h : Int
def Bx.vs (b : Bx) : List V := [.int b.x, .int b.y, .int b.w, .int b.h]
def BxAt (K : PySem.W.Frag) (H : Hp) (v : V) (b : Bx) : Prop := ∃ a, v = .ref a ∧ SqT K H a b.vs
theorem BxAt.tf {K : PySem.W.Frag} {H H' : Hp} {v : V} {b : Bx} (h : BxAt K H v b) (t : TF H H') : BxAt K H' v b := by
  obtain ⟨a, h1, h2⟩ := h
  exact ⟨a, h1, t.sq h2⟩
structure Kd where
  nm : Str
  w : Int
  h : Int
  tr : List Str
def Kd.has (k : Kd) (t : Str) : Bool := inV (.str t) (k.tr.map V.str)
def KdAt (K : PySem.W.Frag) (H : Hp) (v : V) (k : Kd) : Prop := ∃ (a t : Addr) (ow ru : V), v = .ref a ∧ SqT K H a [.str k.nm, .int k.w, .int k.h, .ref t, ow, ru] ∧ SqT K H t (k.tr.map V.str)
theorem KdAt.tf {K : PySem.W.Frag} {H H' : Hp} {v : V} {k : Kd} (h : KdAt K H v k) (e : TF H H') : KdAt K H' v k := by
  obtain ⟨a, t, ow, ru, h1, h2, h3⟩ := h
  exact ⟨a, t, ow, ru, h1, e.sq h2, e.sq h3⟩
structure Gm where
  rows : List Str
  W : Nat
  ho : Int
  kds : List Kd
structure Gm.ok (G : Gm) : Prop where
  r1 : 1 ≤ G.rows.length
  r2 : G.rows.length ≤ 20
  wd : ∀ r ∈ G.rows, r.length = G.W
  w1 : 1 ≤ G.W
  w2 : G.W ≤ 30
  h1 : 1 ≤ G.ho
  h2 : G.ho ≤ 4
  kl : G.kds.length ≤ 8
  kw : ∀ k ∈ G.kds, 1 ≤ k.w ∧ k.w ≤ 16 ∧ 1 ≤ k.h ∧ k.h ≤ 16 ∧ k.tr.length ≤ 5
/-- the level -/
def LvAt (K : PySem.W.Frag) (H : Hp) (v : V) (G : Gm) : Prop := ∃ (l rs : Addr) (st pu : V), v = .ref l ∧ SqT K H l [.ref rs, st, .int G.ho, pu] ∧ SqT K H rs (G.rows.map V.str)
theorem LvAt.tf {K : PySem.W.Frag} {H H' : Hp} {v : V} {G : Gm} (h : LvAt K H v G) (e : TF H H') : LvAt K H' v G := by
  obtain ⟨l, rs, st, pu, h1, h2, h3⟩ := h
  exact ⟨l, rs, st, pu, h1, e.sq h2, e.sq h3⟩
def KsAt (K : PySem.W.Frag) (H : Hp) (v : V) (G : Gm) : Prop := ∃ (ks : Addr) (kv : List V), v = .ref ks ∧ SqT K H ks kv ∧ kv.length = G.kds.length ∧ ∀ (i : Nat) (k : Kd), G.kds[i]? = some k → ∃ x : V, kv[i]? = some x ∧ KdAt K H x k
theorem KsAt.tf {K : PySem.W.Frag} {H H' : Hp} {v : V} {G : Gm} (h : KsAt K H v G) (e : TF H H') : KsAt K H' v G := by
  obtain ⟨ks, kv, h1, h2, h3, h4⟩ := h
  exact ⟨ks, kv, h1, e.sq h2, h3, fun i k z => by obtain ⟨x, g1, g2⟩ := h4 i k z; exact ⟨x, g1, g2.tf e⟩⟩
def GmAt (K : PySem.W.Frag) (H : Hp) (v : V) (G : Gm) : Prop := ∃ (g : Addr) (lv ks : V), v = .ref g ∧ SqT K H g [lv, ks] ∧ LvAt K H lv G ∧ KsAt K H ks G
theorem GmAt.tf {K : PySem.W.Frag} {H H' : Hp} {v : V} {G : Gm} (h : GmAt K H v G) (e : TF H H') : GmAt K H' v G := by
  obtain ⟨g, lv, ks, h1, h2, h3, h4⟩ := h
  exact ⟨g, lv, ks, h1, e.sq h2, h3.tf e, h4.tf e⟩
structure Tg where
  k : Nat
  hs : Int
  x : Int
  y : Int
  dx : Int
  dy : Int
  rest : Int
  own : List Int
def TgAt (K : PySem.W.Frag) (H : Hp) (v : V) (t : Tg) : Prop := ∃ (a : Addr) (ow : V), v = .ref a ∧ SqT K H a [.int (t.k : Int), .int t.hs, .int t.x, .int t.y, .int t.dx, .int t.dy, .int t.rest, ow]
theorem TgAt.tf {K : PySem.W.Frag} {H H' : Hp} {v : V} {t : Tg} (h : TgAt K H v t) (e : TF H H') : TgAt K H' v t := by
  obtain ⟨a, ow, h1, h2⟩ := h
  exact ⟨a, ow, h1, e.sq h2⟩
def Tg.box (t : Tg) (k : Kd) : Bx := ⟨t.x, t.y, k.w, k.h⟩
def meets (a b : Bx) : Bool := decide (a.x < b.x + b.w) && (decide (b.x < a.x + a.w) && (decide (a.y < b.y + b.h) && decide (b.y < a.y + a.h)))
section
variable {P : Program} {w : World} {K : PySem.W.Frag} {mg : Str → Option Value} {base : Heap}
def spBox (K : PySem.W.Frag) : Sp := fun vs H Q _ => ∃ (g t : V) (G : Gm) (th : Tg) (kd : Kd), vs = [g, t] ∧ GmAt K H g G ∧ TgAt K H t th ∧ G.kds[th.k]? = some kd ∧ ∀ p H', Same H H' → H' p = some (.tup (th.box kd).vs) → Q (.ref p) H'
theorem scBox : FnScope ["game", "thing", "kind"] ["game", "thing"] (defScope s_law_box) := ⟨rfl, rfl, rfl, by decide +kernel, rfl, by decide +kernel, by decide +kernel⟩
theorem scBb : FnScope ["game", "thing", "kind"] ["game", "thing"] (defScope s_body_box) := ⟨rfl, rfl, rfl, by decide +kernel, rfl, by decide +kernel, by decide +kernel⟩
theorem ok_law_box (T : Txt K w mg) : FnOk P w K mg base CX0 1 (He.fAd K ("_law_box", none)) (fdAt K (He.fAd K ("_law_box", none))) ["game", "thing"] (spBox K) := by
  refine T.F_law_box.ok scBox (fun vs H Q E h => ?_) (fun cdv A outer s H vs Q E hr h => ?_)
  · obtain ⟨g, t, G, th, kd, rfl, _⟩ := h
    rfl
  · obtain ⟨g, t, G, th, kd, rfl, ⟨ga, lv, ks, rfl, sg, _, ⟨ka, kv, rfl, sk, _, hk⟩⟩, ⟨ta, ow, rfl, st⟩, hkd, k⟩ := h
    refine ⟨_, PSs.nox (pss_cons (ps_set (i := 2) scBox.nd rfl (Or.inl rfl) (pe_ix (r := rIxT K) ix_tup (pe_ix (r := rIxT K) ix_tup (pv 0) pe_int (fun _ _ => rfl)) (pe_ix (r := rIxT K) ix_tup (pv 1) pe_int (fun _ _ => rfl)) (fun _ _ => rfl)))
      (pss_one (ps_ret (pe_tup (pa_cons (pe_ix (r := rIxT K) ix_tup (pv 1) pe_int (fun _ _ => rfl)) (pa_cons (pe_ix (r := rIxT K) ix_tup (pv 1) pe_int (fun _ _ => rfl)) (pa_cons (pe_ix (r := rIxT K) ix_tup (pv 2) pe_int (fun _ _ => rfl)) (pa_cons (pe_ix (r := rIxT K) ix_tup (pv 2) pe_int (fun _ _ => rfl)) pa_nil)))))))), ?_⟩
    obtain ⟨x, hx, ⟨xa, xt, xo, xr, rfl, sx, _⟩⟩ := hk _ _ hkd
    refine ⟨_, rfl, ga, _, _, _, rfl, rfl, sg, atI_nat (j := 1) rfl, _, rfl, ta, _, _, _, rfl, rfl, st, atI_nat (j := 0) rfl, ka, kv, _, _, rfl, rfl, sk, atI_nat hx, ?_⟩
    exact ⟨_, rfl, ta, _, _, _, rfl, rfl, st, atI_nat (j := 2) rfl, _, rfl, ta, _, _, _, rfl, rfl, st, atI_nat (j := 3) rfl, _, rfl, xa, _, _, _, rfl, rfl, sx, atI_nat (j := 1) rfl, _, rfl, xa, _, _, _, rfl, rfl, sx, atI_nat (j := 2) rfl, (show 4 ≤ sizeLine by decide), fun p np => k p _ (new_same np) upd_same⟩
theorem ok_body_box (T : Txt K w mg) : FnOk P w K mg base CX0 1 (He.fAd K ("body_box", none)) (fdAt K (He.fAd K ("body_box", none))) ["game", "thing"] (spBox K) := by
  refine T.F_body_box.ok scBb (fun vs H Q E h => ?_) (fun cdv A outer s H vs Q E hr h => ?_)
  · obtain ⟨g, t, G, th, kd, rfl, _⟩ := h
    rfl
  · obtain ⟨g, t, G, th, kd, rfl, ⟨ga, lv, ks, rfl, sg, _, ⟨ka, kv, rfl, sk, _, hk⟩⟩, ⟨ta, ow, rfl, st⟩, hkd, k⟩ := h
    refine ⟨_, PSs.nox (pss_cons (ps_set (i := 2) scBb.nd rfl (Or.inl rfl) (pe_ix (r := rIxT K) ix_tup (pe_ix (r := rIxT K) ix_tup (pv 0) pe_int (fun _ _ => rfl)) (pe_ix (r := rIxT K) ix_tup (pv 1) pe_int (fun _ _ => rfl)) (fun _ _ => rfl)))
      (pss_one (ps_ret (pe_tup (pa_cons (pe_ix (r := rIxT K) ix_tup (pv 1) pe_int (fun _ _ => rfl)) (pa_cons (pe_ix (r := rIxT K) ix_tup (pv 1) pe_int (fun _ _ => rfl)) (pa_cons (pe_ix (r := rIxT K) ix_tup (pv 2) pe_int (fun _ _ => rfl)) (pa_cons (pe_ix (r := rIxT K) ix_tup (pv 2) pe_int (fun _ _ => rfl)) pa_nil)))))))), ?_⟩
    obtain ⟨x, hx, ⟨xa, xt, xo, xr, rfl, sx, _⟩⟩ := hk _ _ hkd
    refine ⟨_, rfl, ga, _, _, _, rfl, rfl, sg, atI_nat (j := 1) rfl, _, rfl, ta, _, _, _, rfl, rfl, st, atI_nat (j := 0) rfl, ka, kv, _, _, rfl, rfl, sk, atI_nat hx, ?_⟩
    exact ⟨_, rfl, ta, _, _, _, rfl, rfl, st, atI_nat (j := 2) rfl, _, rfl, ta, _, _, _, rfl, rfl, st, atI_nat (j := 3) rfl, _, rfl, xa, _, _, _, rfl, rfl, sx, atI_nat (j := 1) rfl, _, rfl, xa, _, _, _, rfl, rfl, sx, atI_nat (j := 2) rfl, (show 4 ≤ sizeLine by decide), fun p np => k p _ (new_same np) upd_same⟩
def spMeet (K : PySem.W.Frag) : Sp := fun vs H Q _ => ∃ (u v : V) (a b : Bx), vs = [u, v] ∧ BxAt K H u a ∧ BxAt K H v b ∧ Q (.bl (meets a b)) H
theorem scMe : FnScope ["one", "other"] ["one", "other"] (defScope s_meet) := ⟨rfl, rfl, rfl, by decide +kernel, rfl, by decide +kernel, by decide +kernel⟩
theorem scLme : FnScope ["one", "other"] ["one", "other"] (defScope s_law_meet) := ⟨rfl, rfl, rfl, by decide +kernel, rfl, by decide +kernel, by decide +kernel⟩
theorem ok_meet (T : Txt K w mg) : FnOk P w K mg base CX0 1 (He.fAd K ("meet", none)) (fdAt K (He.fAd K ("meet", none))) ["one", "other"] (spMeet K) := by
  refine T.F_meet.ok scMe (fun vs H Q E h => ?_) (fun cdv A outer s H vs Q E hr h => ?_)
  · obtain ⟨u, v, a, b, rfl, _⟩ := h
    rfl
  · obtain ⟨u, v, a, b, rfl, ⟨ua, rfl, su⟩, ⟨va, rfl, sv⟩, q⟩ := h
    refine ⟨_, PSs.nox (pss_one (ps_ret (pe_and (pe_cmpR op_lt (pe_ix (r := rIxT K) ix_tup (pv 0) pe_int (fun _ _ => rfl)) (pe_op op_add (pe_ix (r := rIxT K) ix_tup (pv 1) pe_int (fun _ _ => rfl)) (pe_ix (r := rIxT K) ix_tup (pv 1) pe_int (fun _ _ => rfl))) (nomark _)) (pe_and (pe_cmpR op_lt (pe_ix (r := rIxT K) ix_tup (pv 1) pe_int (fun _ _ => rfl)) (pe_op op_add (pe_ix (r := rIxT K) ix_tup (pv 0) pe_int (fun _ _ => rfl)) (pe_ix (r := rIxT K) ix_tup (pv 0) pe_int (fun _ _ => rfl))) (nomark _)) (pe_and (pe_cmpR op_lt (pe_ix (r := rIxT K) ix_tup (pv 0) pe_int (fun _ _ => rfl)) (pe_op op_add (pe_ix (r := rIxT K) ix_tup (pv 1) pe_int (fun _ _ => rfl)) (pe_ix (r := rIxT K) ix_tup (pv 1) pe_int (fun _ _ => rfl))) (nomark _)) (pe_one (pe_cmpR op_lt (pe_ix (r := rIxT K) ix_tup (pv 1) pe_int (fun _ _ => rfl)) (pe_op op_add (pe_ix (r := rIxT K) ix_tup (pv 0) pe_int (fun _ _ => rfl)) (pe_ix (r := rIxT K) ix_tup (pv 0) pe_int (fun _ _ => rfl))) (nomark _)))))))), ?_⟩
    have no : ∀ {c : Bool}, ¬ c = true → c = false := fun {c} z => by cases c with | true => exact absurd rfl z | false => rfl
    unfold meets at q
    refine ⟨_, rfl, ua, _, _, _, rfl, rfl, su, atI_nat (j := 0) rfl, _, rfl, va, _, _, _, rfl, rfl, sv, atI_nat (j := 0) rfl, _, rfl, va, _, _, _, rfl, rfl, sv, atI_nat (j := 2) rfl, _, _, rfl, rfl, _, _, rfl, rfl, _, rfl, ite2 (fun z => ?_) (fun z => ?_)⟩
    rotate_left
    · rw [no z] at q
      exact q
    rw [z, Bool.true_and] at q
    refine ⟨_, rfl, va, _, _, _, rfl, rfl, sv, atI_nat (j := 0) rfl, _, rfl, ua, _, _, _, rfl, rfl, su, atI_nat (j := 0) rfl, _, rfl, ua, _, _, _, rfl, rfl, su, atI_nat (j := 2) rfl, _, _, rfl, rfl, _, _, rfl, rfl, _, rfl, ite2 (fun z => ?_) (fun z => ?_)⟩
    rotate_left
    · rw [no z] at q
      exact q
    rw [z, Bool.true_and] at q
    refine ⟨_, rfl, ua, _, _, _, rfl, rfl, su, atI_nat (j := 1) rfl, _, rfl, va, _, _, _, rfl, rfl, sv, atI_nat (j := 1) rfl, _, rfl, va, _, _, _, rfl, rfl, sv, atI_nat (j := 3) rfl, _, _, rfl, rfl, _, _, rfl, rfl, _, rfl, ite2 (fun z => ?_) (fun z => ?_)⟩
    rotate_left
    · rw [no z] at q
      exact q
    rw [z, Bool.true_and] at q
    exact ⟨_, rfl, va, _, _, _, rfl, rfl, sv, atI_nat (j := 1) rfl, _, rfl, ua, _, _, _, rfl, rfl, su, atI_nat (j := 1) rfl, _, rfl, ua, _, _, _, rfl, rfl, su, atI_nat (j := 3) rfl, _, _, rfl, rfl, _, _, rfl, rfl, q⟩
theorem ok_law_meet (T : Txt K w mg) : FnOk P w K mg base CX0 1 (He.fAd K ("_law_meet", none)) (fdAt K (He.fAd K ("_law_meet", none))) ["one", "other"] (spMeet K) := by
  refine T.F_law_meet.ok scLme (fun vs H Q E h => ?_) (fun cdv A outer s H vs Q E hr h => ?_)
  · obtain ⟨u, v, a, b, rfl, _⟩ := h
    rfl
  · obtain ⟨u, v, a, b, rfl, ⟨ua, rfl, su⟩, ⟨va, rfl, sv⟩, q⟩ := h
    refine ⟨_, PSs.nox (pss_cons (ps_if (PW.pt (pw_or (pt_cmpR op_le (pe_op op_add (pe_ix (r := rIxT K) ix_tup (pv 0) pe_int (fun _ _ => rfl)) (pe_ix (r := rIxT K) ix_tup (pv 0) pe_int (fun _ _ => rfl))) (pe_ix (r := rIxT K) ix_tup (pv 1) pe_int (fun _ _ => rfl)) (nomark _)) (pw_or1 (pt_cmpR op_le (pe_op op_add (pe_ix (r := rIxT K) ix_tup (pv 1) pe_int (fun _ _ => rfl)) (pe_ix (r := rIxT K) ix_tup (pv 1) pe_int (fun _ _ => rfl))) (pe_ix (r := rIxT K) ix_tup (pv 0) pe_int (fun _ _ => rfl)) (nomark _))))) (pss_one (ps_ret pe_bl)) pss_nil)
      (pss_one (ps_ret (pe_and (pe_cmpR op_gt (pe_op op_add (pe_ix (r := rIxT K) ix_tup (pv 0) pe_int (fun _ _ => rfl)) (pe_ix (r := rIxT K) ix_tup (pv 0) pe_int (fun _ _ => rfl))) (pe_ix (r := rIxT K) ix_tup (pv 1) pe_int (fun _ _ => rfl)) (nomark _)) (pe_one (pe_cmpR op_gt (pe_op op_add (pe_ix (r := rIxT K) ix_tup (pv 1) pe_int (fun _ _ => rfl)) (pe_ix (r := rIxT K) ix_tup (pv 1) pe_int (fun _ _ => rfl))) (pe_ix (r := rIxT K) ix_tup (pv 0) pe_int (fun _ _ => rfl)) (nomark _))))))), ?_⟩
    have fal : (a.x + a.w ≤ b.x ∨ b.x + b.w ≤ a.x) → meets a b = false := fun h => by
      unfold meets
      rcases h with h | h
      · rw [decide_eq_false (show ¬ b.x < a.x + a.w by omega)]
        simp
      · rw [decide_eq_false (show ¬ a.x < b.x + b.w by omega)]
        simp
    refine ⟨_, rfl, ua, _, _, _, rfl, rfl, su, atI_nat (j := 0) rfl, _, rfl, ua, _, _, _, rfl, rfl, su, atI_nat (j := 2) rfl, _, _, rfl, rfl, _, rfl, va, _, _, _, rfl, rfl, sv, atI_nat (j := 0) rfl, _, _, rfl, rfl, _, rfl, ite2 (fun z => ?_) (fun z => ?_)⟩
    · rw [fal (.inl (of_decide_eq_true z))] at q
      exact q
    refine ⟨_, rfl, va, _, _, _, rfl, rfl, sv, atI_nat (j := 0) rfl, _, rfl, va, _, _, _, rfl, rfl, sv, atI_nat (j := 2) rfl, _, _, rfl, rfl, _, rfl, ua, _, _, _, rfl, rfl, su, atI_nat (j := 0) rfl, _, _, rfl, rfl, _, rfl, ite2 (fun z2 => ?_) (fun z2 => ?_)⟩
    · rw [fal (.inr (of_decide_eq_true z2))] at q
      exact q
    have h1 : ¬ a.x + a.w ≤ b.x := fun h => z (decide_eq_true h)
    have h2 : ¬ b.x + b.w ≤ a.x := fun h => z2 (decide_eq_true h)
    have e : meets a b = (decide (b.y < a.y + a.h) && decide (a.y < b.y + b.h)) := by
      unfold meets
      rw [decide_eq_true (show a.x < b.x + b.w by omega), decide_eq_true (show b.x < a.x + a.w by omega), Bool.true_and, Bool.true_and, Bool.and_comm]
    rw [e] at q
    refine ⟨_, rfl, ua, _, _, _, rfl, rfl, su, atI_nat (j := 1) rfl, _, rfl, ua, _, _, _, rfl, rfl, su, atI_nat (j := 3) rfl, _, _, rfl, rfl, _, rfl, va, _, _, _, rfl, rfl, sv, atI_nat (j := 1) rfl, _, _, rfl, rfl, _, rfl, ite2 (fun z => ?_) (fun z => ?_)⟩
    rotate_left
    · have z : decide (b.y < a.y + a.h) = false := by
        cases h : decide (b.y < a.y + a.h) with
        | true => exact absurd h z
        | false => rfl
      rw [z, Bool.false_and] at q
      exact q
    rw [z, Bool.true_and] at q
    exact ⟨_, rfl, va, _, _, _, rfl, rfl, sv, atI_nat (j := 1) rfl, _, rfl, va, _, _, _, rfl, rfl, sv, atI_nat (j := 3) rfl, _, _, rfl, rfl, _, rfl, ua, _, _, _, rfl, rfl, su, atI_nat (j := 1) rfl, _, _, rfl, rfl, q⟩
/-! ### moved, traits -/
def Bx.mv (b : Bx) (dx dy : Int) : Bx := ⟨b.x + dx, b.y + dy, b.w, b.h⟩
def spMv (K : PySem.W.Frag) : Sp := fun vs H Q _ => ∃ (u : V) (b : Bx) (dx dy : Int), vs = [u, .int dx, .int dy] ∧ BxAt K H u b ∧ ∀ p H', Same H H' → H' p = some (.tup (b.mv dx dy).vs) → Q (.ref p) H'
theorem scMv : FnScope ["box", "dx", "dy", "x", "y", "wide", "high"] ["box", "dx", "dy"] (defScope s_moved) := ⟨rfl, rfl, rfl, by decide +kernel, rfl, by decide +kernel, by decide +kernel⟩
theorem ok_moved (T : Txt K w mg) : FnOk P w K mg base CX0 1 (He.fAd K ("moved", none)) (fdAt K (He.fAd K ("moved", none))) ["box", "dx", "dy"] (spMv K) := by
  refine T.F_moved.ok scMv (fun vs H Q E h => ?_) (fun cdv A outer s H vs Q E hr h => ?_)
  · obtain ⟨u, b, dx, dy, rfl, _⟩ := h
    rfl
  · obtain ⟨u, b, dx, dy, rfl, ⟨ua, rfl, su⟩, k⟩ := h
    refine ⟨_, PSs.nox (pss_cons (ps_asg (pv 0) (pg_tup (by rfl) (pgs_cons (pg_name (i := 3) scMv.nd rfl (Or.inl rfl)) (pgs_cons (pg_name (i := 4) scMv.nd rfl (Or.inl rfl)) (pgs_cons (pg_name (i := 5) scMv.nd rfl (Or.inl rfl)) (pgs_cons (pg_name (i := 6) scMv.nd rfl (Or.inl rfl)) pgs_nil))))))
      (pss_one (ps_ret (pe_tup (pa_cons (pe_op op_add (pv 3) (pv 1)) (pa_cons (pe_op op_add (pv 4) (pv 2)) (pa_cons (pv 5) (pa_cons (pv 6) pa_nil)))))))), ?_⟩
    refine ⟨_, rfl, ua, _, rfl, su, rfl, _, _, rfl, _, _, rfl, _, _, rfl, _, _, rfl, rfl, ?_⟩
    exact ⟨_, rfl, _, rfl, _, _, rfl, rfl, _, rfl, _, rfl, _, _, rfl, rfl, _, rfl, _, rfl, (show 4 ≤ sizeLine by decide), fun p np => k p _ (new_same np) upd_same⟩
def spHas (K : PySem.W.Frag) : Sp := fun vs H Q _ => ∃ (g t : V) (G : Gm) (th : Tg) (kd : Kd) (n : Str), vs = [g, t, .str n] ∧ GmAt K H g G ∧ TgAt K H t th ∧ G.kds[th.k]? = some kd ∧ Q (.bl (kd.has n)) H
theorem scLh : FnScope ["game", "thing", "trait"] ["game", "thing", "trait"] (defScope s_law_has) := ⟨rfl, rfl, rfl, by decide +kernel, rfl, by decide +kernel, by decide +kernel⟩
theorem scHt : FnScope ["game", "thing", "trait"] ["game", "thing", "trait"] (defScope s_has_trait) := ⟨rfl, rfl, rfl, by decide +kernel, rfl, by decide +kernel, by decide +kernel⟩
theorem flat_strs : ∀ l : List Str, (l.map V.str).all flatV = true
  | [] => rfl
  | _ :: l => flat_strs l
theorem ok_law_has (T : Txt K w mg) : FnOk P w K mg base CX0 1 (He.fAd K ("_law_has", none)) (fdAt K (He.fAd K ("_law_has", none))) ["game", "thing", "trait"] (spHas K) := by
  refine T.F_law_has.ok scLh (fun vs H Q E h => ?_) (fun cdv A outer s H vs Q E hr h => ?_)
  · obtain ⟨g, t, G, th, kd, n, rfl, _⟩ := h
    rfl
  · obtain ⟨g, t, G, th, kd, n, rfl, ⟨ga, lv, ks, rfl, sg, _, ⟨ka, kv, rfl, sk, _, hk⟩⟩, ⟨ta, ow, rfl, st⟩, hkd, q⟩ := h
    refine ⟨_, PSs.nox (pss_one (ps_ret (pe_cmpR (r := rIn K false) op_in_seq (pv 2) (pe_ix (r := rIxT K) ix_tup (pe_ix (r := rIxT K) ix_tup (pe_ix (r := rIxT K) ix_tup (pv 0) pe_int (fun _ _ => rfl)) (pe_ix (r := rIxT K) ix_tup (pv 1) pe_int (fun _ _ => rfl)) (fun _ _ => rfl)) pe_int (fun _ _ => rfl)) rfl))), ?_⟩
    obtain ⟨x, hx, ⟨xa, xt, xo, xr, rfl, sx, sxt⟩⟩ := hk _ _ hkd
    exact ⟨_, rfl, _, rfl, ga, _, _, _, rfl, rfl, sg, atI_nat (j := 1) rfl, _, rfl, ta, _, _, _, rfl, rfl, st, atI_nat (j := 0) rfl, ka, kv, _, _, rfl, rfl, sk, atI_nat hx, xa, _, _, _, rfl, rfl, sx, atI_nat (j := 3) rfl, xt, _, rfl, .inr sxt, rfl, flat_strs _, q⟩
theorem ok_has_trait (T : Txt K w mg) : FnOk P w K mg base CX0 1 (He.fAd K ("has_trait", none)) (fdAt K (He.fAd K ("has_trait", none))) ["game", "thing", "trait"] (spHas K) := by
  refine T.F_has_trait.ok scHt (fun vs H Q E h => ?_) (fun cdv A outer s H vs Q E hr h => ?_)
  · obtain ⟨g, t, G, th, kd, n, rfl, _⟩ := h
    rfl
  · obtain ⟨g, t, G, th, kd, n, rfl, ⟨ga, lv, ks, rfl, sg, _, ⟨ka, kv, rfl, sk, _, hk⟩⟩, ⟨ta, ow, rfl, st⟩, hkd, q⟩ := h
    refine ⟨_, PSs.nox (pss_one (ps_ret (pe_cmpR (r := rIn K false) op_in_seq (pv 2) (pe_ix (r := rIxT K) ix_tup (pe_ix (r := rIxT K) ix_tup (pe_ix (r := rIxT K) ix_tup (pv 0) pe_int (fun _ _ => rfl)) (pe_ix (r := rIxT K) ix_tup (pv 1) pe_int (fun _ _ => rfl)) (fun _ _ => rfl)) pe_int (fun _ _ => rfl)) rfl))), ?_⟩
    obtain ⟨x, hx, ⟨xa, xt, xo, xr, rfl, sx, sxt⟩⟩ := hk _ _ hkd
    exact ⟨_, rfl, _, rfl, ga, _, _, _, rfl, rfl, sg, atI_nat (j := 1) rfl, _, rfl, ta, _, _, _, rfl, rfl, st, atI_nat (j := 0) rfl, ka, kv, _, _, rfl, rfl, sk, atI_nat hx, xa, _, _, _, rfl, rfl, sx, atI_nat (j := 3) rfl, xt, _, rfl, .inr sxt, rfl, flat_strs _, q⟩
/-! ### sizes -/
def Gm.wi (G : Gm) : Int := 8 * (G.W : Int)
def Gm.hi (G : Gm) : Int := 8 * (G.rows.length : Int)
theorem row_at {G : Gm} (o : G.ok) : ∃ r, G.rows[0]? = some r ∧ r.length = G.W := by
  have h := o.r1
  exact ⟨G.rows[0], List.getElem?_eq_getElem (by omega), o.wd _ (List.getElem_mem _)⟩
def spSz (K : PySem.W.Frag) : Sp := fun vs H Q _ => ∃ (g : V) (G : Gm), vs = [g] ∧ GmAt K H g G ∧ G.ok ∧ ∀ p H', Same H H' → H' p = some (.tup [.int G.wi, .int G.hi]) → Q (.ref p) H'
theorem scSz : FnScope ["game"] ["game"] (defScope s_law_size) := ⟨rfl, rfl, rfl, by decide +kernel, rfl, by decide +kernel, by decide +kernel⟩
theorem ok_law_size (T : Txt K w mg) : FnOk P w K mg base CX0 1 (He.fAd K ("_law_size", none)) (fdAt K (He.fAd K ("_law_size", none))) ["game"] (spSz K) := by
  refine T.F_law_size.ok scSz (fun vs H Q E h => ?_) (fun cdv A outer s H vs Q E hr h => ?_)
  · obtain ⟨g, G, rfl, _⟩ := h
    rfl
  · obtain ⟨g, G, rfl, ⟨ga, lv, ks, rfl, sg, ⟨l, rs, st, pu, rfl, sl, sr⟩, _⟩, o, k⟩ := h
    refine ⟨_, PSs.nox (pss_one (ps_ret (pe_tup (pa_cons (pe_op op_mulW pe_int (pe_callB call_len_str (by rfl) T.n_len PyProof.Rows.Boot.«len» (pa_cons (pe_ix (r := rIxT K) ix_tup (pe_ix (r := rIxT K) ix_tup (pe_ix (r := rIxT K) ix_tup (pv 0) pe_int (fun _ _ => rfl)) pe_int (fun _ _ => rfl)) pe_int (fun _ _ => rfl)) pa_nil))) (pa_cons (pe_op op_mulW pe_int (pe_callB (r := Evl.rLenS K) call_len_seq (by rfl) T.n_len PyProof.Rows.Boot.«len» (pa_cons (pe_ix (r := rIxT K) ix_tup (pe_ix (r := rIxT K) ix_tup (pv 0) pe_int (fun _ _ => rfl)) pe_int (fun _ _ => rfl)) pa_nil))) pa_nil))))), ?_⟩
    obtain ⟨r, hr0, hrl⟩ := row_at o
    have w2 := o.w2
    have r2 := o.r2
    have hr1 : (G.rows.map V.str)[0]? = some (.str r) := by rw [List.getElem?_map, hr0]; rfl
    have rl : r.length ≤ sizeLine := Nat.le_trans (show r.length ≤ 30 by omega) (by decide)
    have mw : ∀ n : Nat, n ≤ 1000 → CMulW 8 (n : Int) := fun n h => wide_mul (a := 40) (b := 40) (by decide) (small_ab (by omega) (by rw [pow40]; omega)) (by decide) (by decide) (by decide)
    refine ⟨_, rfl, ga, _, _, _, rfl, rfl, sg, atI_nat (j := 0) rfl, l, _, _, _, rfl, rfl, sl, atI_nat (j := 0) rfl, rs, _, _, _, rfl, rfl, sr, atI_nat hr1, r, rfl, rl, _, _, rfl, rfl, mw _ (by omega), _, rfl, ga, _, _, _, rfl, rfl, sg, atI_nat (j := 0) rfl, l, _, _, _, rfl, rfl, sl, atI_nat (j := 0) rfl, rs, _, rfl, .inr sr, _, _, rfl, rfl, mw _ (by rw [List.length_map]; omega), (show 2 ≤ sizeLine by decide), fun p np => k p _ (new_same np) ?_⟩
    rw [upd_same, hrl, List.length_map]
    rfl
def spEx (K : PySem.W.Frag) : Sp := fun vs H Q _ => ∃ (v : V) (G : Gm), vs = [v] ∧ LvAt K H v G ∧ G.ok ∧ ∀ p H', Same H H' → H' p = some (.tup [.int G.wi, .int G.hi]) → Q (.ref p) H'
theorem scEx : FnScope ["level", "rows"] ["level"] (defScope s_extent) := ⟨rfl, rfl, rfl, by decide +kernel, rfl, by decide +kernel, by decide +kernel⟩
theorem ok_extent (T : Txt K w mg) : FnOk P w K mg base CX0 1 (He.fAd K ("extent", none)) (fdAt K (He.fAd K ("extent", none))) ["level"] (spEx K) := by
  obtain ⟨u1, g1, r1⟩ := T.c_SQUARE
  refine T.F_extent.ok scEx (fun vs H Q E h => ?_) (fun cdv A outer s H vs Q E hr h => ?_)
  · obtain ⟨v, G, rfl, _⟩ := h
    rfl
  · obtain ⟨v, G, rfl, ⟨l, rs, st, pu, rfl, sl, sr⟩, o, k⟩ := h
    refine ⟨_, PSs.nox (pss_cons (ps_set (i := 1) scEx.nd rfl (Or.inl rfl) (pe_ix (r := rIxT K) ix_tup (pv 0) pe_int (fun _ _ => rfl)))
      (pss_one (ps_ret (pe_tup (pa_cons (pe_op op_mulW (pe_callB call_len_str (by rfl) T.n_len PyProof.Rows.Boot.«len» (pa_cons (pe_ix (r := rIxT K) ix_tup (pv 1) pe_int (fun _ _ => rfl)) pa_nil)) (pe_glob (v := .int 8) (by rfl) g1 r1)) (pa_cons (pe_op op_mulW (pe_callB (r := Evl.rLenS K) call_len_seq (by rfl) T.n_len PyProof.Rows.Boot.«len» (pa_cons (pv 1) pa_nil)) (pe_glob (v := .int 8) (by rfl) g1 r1)) pa_nil)))))), ?_⟩
    obtain ⟨r, hr0, hrl⟩ := row_at o
    have w2 := o.w2
    have r2 := o.r2
    have hr1 : (G.rows.map V.str)[0]? = some (.str r) := by rw [List.getElem?_map, hr0]; rfl
    have rl : r.length ≤ sizeLine := Nat.le_trans (show r.length ≤ 30 by omega) (by decide)
    have mw : ∀ n : Nat, n ≤ 1000 → CMulW (n : Int) 8 := fun n h => wide_mul (a := 40) (b := 40) (small_ab (by omega) (by rw [pow40]; omega)) (by decide) (by decide) (by decide) (by decide)
    refine ⟨_, rfl, l, _, _, _, rfl, rfl, sl, atI_nat (j := 0) rfl, _, rfl, rs, _, _, _, rfl, rfl, sr, atI_nat hr1, r, rfl, rl, _, _, rfl, rfl, mw _ (by omega), _, rfl, rs, _, rfl, .inr sr, _, _, rfl, rfl, mw _ (by rw [List.length_map]; omega), (show 2 ≤ sizeLine by decide), fun p np => k p _ (new_same np) ?_⟩
    rw [upd_same, hrl, List.length_map, Gm.wi, Gm.hi, Int.mul_comm 8, Int.mul_comm 8]
def Gm.bw (G : Gm) : Int := ((G.W : Int) + 3) / 4
def Gm.bh (G : Gm) : Int := ((G.rows.length : Int) + 3) / 4
def spBc (K : PySem.W.Frag) : Sp := fun vs H Q _ => ∃ (v : V) (G : Gm), vs = [v] ∧ LvAt K H v G ∧ G.ok ∧ ∀ p H', Same H H' → H' p = some (.tup [.int G.bh, .int G.bw]) → Q (.ref p) H'
theorem scBc : FnScope ["level", "rows", "above"] ["level"] (defScope s_block_counts) := ⟨rfl, rfl, rfl, by decide +kernel, rfl, by decide +kernel, by decide +kernel⟩
theorem ok_block_counts (T : Txt K w mg) : FnOk P w K mg base CX0 1 (He.fAd K ("block_counts", none)) (fdAt K (He.fAd K ("block_counts", none))) ["level"] (spBc K) := by
  obtain ⟨u1, g1, r1⟩ := T.c_BLOCK_SQUARES
  refine T.F_block_counts.ok scBc (fun vs H Q E h => ?_) (fun cdv A outer s H vs Q E hr h => ?_)
  · obtain ⟨v, G, rfl, _⟩ := h
    rfl
  · obtain ⟨v, G, rfl, ⟨l, rs, st, pu, rfl, sl, sr⟩, o, k⟩ := h
    refine ⟨_, PSs.nox (pss_cons (ps_set (i := 1) scBc.nd rfl (Or.inl rfl) (pe_ix (r := rIxT K) ix_tup (pv 0) pe_int (fun _ _ => rfl)))
      (pss_cons (ps_set (i := 2) scBc.nd rfl (Or.inl rfl) (pe_op op_sub (pe_glob (v := .int 4) (by rfl) g1 r1) pe_int))
      (pss_one (ps_ret (pe_tup (pa_cons (pe_op op_fdivW (pe_op op_add (pe_callB (r := Evl.rLenS K) call_len_seq (by rfl) T.n_len PyProof.Rows.Boot.«len» (pa_cons (pv 1) pa_nil)) (pv 2)) (pe_glob (v := .int 4) (by rfl) g1 r1)) (pa_cons (pe_op op_fdivW (pe_op op_add (pe_callB call_len_str (by rfl) T.n_len PyProof.Rows.Boot.«len» (pa_cons (pe_ix (r := rIxT K) ix_tup (pv 1) pe_int (fun _ _ => rfl)) pa_nil)) (pv 2)) (pe_glob (v := .int 4) (by rfl) g1 r1)) pa_nil))))))), ?_⟩
    obtain ⟨r, hr0, hrl⟩ := row_at o
    have w2 := o.w2
    have r2 := o.r2
    have hr1 : (G.rows.map V.str)[0]? = some (.str r) := by rw [List.getElem?_map, hr0]; rfl
    have rl : r.length ≤ sizeLine := Nat.le_trans (show r.length ≤ 30 by omega) (by decide)
    have d4 : ∀ i : Int, CDivW i 4 := fun i => wide_div (b := 10) (by decide) (by decide) (by decide) (by decide)
    refine ⟨_, rfl, l, _, _, _, rfl, rfl, sl, atI_nat (j := 0) rfl, _, _, rfl, rfl, _, rfl, rs, _, rfl, .inr sr, _, rfl, _, _, rfl, rfl, _, _, rfl, rfl, d4 _, _, rfl, rs, _, _, _, rfl, rfl, sr, atI_nat hr1, r, rfl, rl, _, rfl, _, _, rfl, rfl, _, _, rfl, rfl, d4 _, (show 2 ≤ sizeLine by decide), fun p np => k p _ (new_same np) ?_⟩
    rw [upd_same, hrl, List.length_map]
    rfl
def spBel (K : PySem.W.Frag) : Sp := fun vs H Q _ => ∃ (v u : V) (G : Gm) (b : Bx), vs = [v, u] ∧ LvAt K H v G ∧ G.ok ∧ BxAt K H u b ∧ ∀ H', Same H H' → Q (.bl (decide (G.hi ≤ b.y))) H'
theorem scBel : FnScope ["level", "box"] ["level", "box"] (defScope s_is_below) := ⟨rfl, rfl, rfl, by decide +kernel, rfl, by decide +kernel, by decide +kernel⟩
theorem ok_is_below (T : Txt K w mg) : FnOk P w K mg base CX0 2 (He.fAd K ("is_below", none)) (fdAt K (He.fAd K ("is_below", none))) ["level", "box"] (spBel K) := by
  refine T.F_is_below.ok scBel (fun vs H Q E h => ?_) (fun cdv A outer s H vs Q E hr h => ?_)
  · obtain ⟨v, u, G, b, rfl, _⟩ := h
    rfl
  · obtain ⟨v, u, G, b, rfl, lv, o, ⟨ua, rfl, su⟩, k⟩ := h
    refine ⟨_, PSs.nox (pss_one (ps_ret (pe_cmpR op_ge (pe_ix (r := rIxT K) ix_tup (pv 1) pe_int (fun _ _ => rfl)) (pe_ix (r := rIxT K) ix_tup (pe_call (ok_extent T) (hr.mono (by first | decide | omega)) (by rfl) T.g_extent (T.F_extent).kp T.b_extent .nil pass0 (pa_cons (pv 0) pa_nil)) pe_int (fun _ _ => rfl)) (nomark _)))), ?_⟩
    exact ⟨_, rfl, ua, _, _, _, rfl, rfl, su, atI_nat (j := 1) rfl, _, rfl, v, G, rfl, lv, o, fun p H' s hp => ⟨p, _, _, _, rfl, rfl, SqT.of hp, atI_nat (j := 1) rfl, _, _, rfl, rfl, k H' s⟩⟩
def spFal (K : PySem.W.Frag) : Sp := fun vs H Q _ => ∃ (g t : V) (G : Gm) (th : Tg) (kd : Kd), vs = [g, t] ∧ GmAt K H g G ∧ G.ok ∧ TgAt K H t th ∧ G.kds[th.k]? = some kd ∧ ∀ H', Same H H' → Q (.bl (decide (G.hi ≤ th.y))) H'
theorem scFal : FnScope ["game", "thing"] ["game", "thing"] (defScope s_is_fallen) := ⟨rfl, rfl, rfl, by decide +kernel, rfl, by decide +kernel, by decide +kernel⟩
theorem ok_is_fallen (T : Txt K w mg) : FnOk P w K mg base CX0 3 (He.fAd K ("is_fallen", none)) (fdAt K (He.fAd K ("is_fallen", none))) ["game", "thing"] (spFal K) := by
  refine T.F_is_fallen.ok scFal (fun vs H Q E h => ?_) (fun cdv A outer s H vs Q E hr h => ?_)
  · obtain ⟨g, t, G, th, kd, rfl, _⟩ := h
    rfl
  · obtain ⟨g, t, G, th, kd, rfl, hg, o, ht, hkd, k⟩ := h
    refine ⟨_, PSs.nox (pss_one (ps_ret (pe_call (ok_is_below T) (hr.mono (by first | decide | omega)) (by rfl) T.g_is_below (T.F_is_below).kp T.b_is_below .nil pass0 (pa_cons (pe_ix (r := rIxT K) ix_tup (pv 0) pe_int (fun _ _ => rfl)) (pa_cons (pe_call (ok_body_box T) (hr.mono (by first | decide | omega)) (by rfl) T.g_body_box (T.F_body_box).kp T.b_body_box .nil pass0 (pa_cons (pv 0) (pa_cons (pv 1) pa_nil))) pa_nil))))), ?_⟩
    obtain ⟨ga, lv, ks, rfl, sg, hl, _⟩ := id hg
    refine ⟨_, rfl, ga, _, _, _, rfl, rfl, sg, atI_nat (j := 0) rfl, _, rfl, _, rfl, _, t, G, th, kd, rfl, hg, ht, hkd, fun p H' s hp => ?_⟩
    exact ⟨lv, .ref p, G, th.box kd, rfl, hl.tf (same_tf s), o, ⟨p, rfl, SqT.of hp⟩, fun H2 s2 => k H2 (s.trans s2)⟩
end
end K22
set_option maxRecDepth 100000
set_option maxHeartbeats 4000000
/-! Signs. -/
namespace K22
open PySem PySem.Spec PyProof.Rows L2 KF KD KP
def rngI (lo hi : Int) : List Int := (List.range (hi - lo).toNat).map fun i : Nat => lo + (i : Int)
theorem rngI_len (lo hi : Int) : (rngI lo hi).length = (hi - lo).toNat := by rw [rngI, List.length_map, List.length_range]
theorem rngI_get {lo hi : Int} {i : Nat} (h : i < (hi - lo).toNat) : (rngI lo hi)[i]? = some (lo + (i : Int)) := by
  rw [rngI, List.getElem?_map, rng_at h]
  rfl
theorem rngI_take {lo hi : Int} {i : Nat} (h : i < (hi - lo).toNat) : (rngI lo hi).take (i + 1) = (rngI lo hi).take i ++ [lo + (i : Int)] := by
  rw [List.take_add_one, rngI_get h]
  rfl
theorem rngI_all (lo hi : Int) : (rngI lo hi).take (hi - lo).toNat = rngI lo hi := List.take_of_length_le (by rw [rngI_len]; exact Nat.le_refl _)
theorem rngI_mem {lo hi x : Int} : x ∈ rngI lo hi ↔ lo ≤ x ∧ x < hi := by
  rw [rngI, List.mem_map]
  constructor
  · rintro ⟨i, hi, rfl⟩
    have := List.mem_range.mp hi
    omega
  · intro h
    exact ⟨(x - lo).toNat, List.mem_range.mpr (by omega), by omega⟩
def Gm.cp (G : Gm) (r c : Nat) : Nat := match G.rows[r]? with
  | some s => s.cps.toList.getD c 46
  | none => 46
/-- the sign at a unit -/
def Gm.sg (G : Gm) (x y : Int) : Nat := if x < 0 ∨ y < 0 ∨ G.wi ≤ x then 35 else if G.hi ≤ y then 46 else G.cp (y / 8).toNat (x / 8).toNat
def sgV (c : Nat) : V := .str ⟨#[c]⟩
structure Bx.lim (b : Bx) : Prop where
  x1 : -100000 ≤ b.x
  x2 : b.x ≤ 100000
  y1 : -100000 ≤ b.y
  y2 : b.y ≤ 100000
  w1 : 1 ≤ b.w
  w2 : b.w ≤ 100
  h1 : 1 ≤ b.h
  h2 : b.h ≤ 100
def Gm.sgr (G : Gm) (b : Bx) (r : Int) : List Nat := (rngI (b.x / 8) ((b.x + b.w - 1) / 8 + 1)).map fun c => G.sg (8 * c) (8 * r)
def Gm.sgs (G : Gm) (b : Bx) : List Nat := (rngI (b.y / 8) ((b.y + b.h - 1) / 8 + 1)).flatMap (G.sgr b)
theorem sgr_len (G : Gm) {b : Bx} (l : b.lim) (r : Int) : (G.sgr b r).length ≤ 20 := by
  rw [Gm.sgr, List.length_map, rngI_len]
  have := l.w1
  have := l.w2
  omega
theorem flat_len {f : Int → List Nat} (h : ∀ r, (f r).length ≤ 20) : ∀ l : List Int, (l.flatMap f).length ≤ 20 * l.length
  | [] => by simp
  | x :: l => by
    rw [List.flatMap_cons, List.length_append, List.length_cons]
    have := h x
    have := flat_len h l
    omega
theorem sgs_len (G : Gm) {b : Bx} (l : b.lim) : (G.sgs b).length ≤ 400 := by
  have h := flat_len (sgr_len G l) (rngI (b.y / 8) ((b.y + b.h - 1) / 8 + 1))
  rw [rngI_len] at h
  have := l.h1
  have := l.h2
  rw [Gm.sgs]
  omega
def wall (c : Nat) : Bool := decide (c ∈ (Str.ofString "#<>").cps.toList)
def Gm.fr (G : Gm) (b : Bx) : Bool := (G.sgs b).all fun c => !wall c
def Gm.stp (G : Gm) (b : Bx) (dx dy : Int) : Bool := !G.fr (b.mv dx dy) || (decide (dy = 1) && (decide ((b.y + b.h) % 8 = 0) && (G.sgs ⟨b.x, b.y + b.h, b.w, 1⟩).any fun c => decide (c = 61)))
section
variable {P : Program} {w : World} {K : PySem.W.Frag} {mg : Str → Option Value} {base : Heap}
def spSg (K : PySem.W.Frag) : Sp := fun vs H Q _ => ∃ (g : V) (G : Gm) (x y : Int), vs = [g, .int x, .int y] ∧ GmAt K H g G ∧ G.ok ∧ ∀ H', Same H H' → Q (sgV (G.sg x y)) H'
theorem scSg : FnScope ["game", "x", "y", "wide", "high"] ["game", "x", "y"] (defScope s_law_sign) := ⟨rfl, rfl, rfl, by decide +kernel, rfl, by decide +kernel, by decide +kernel⟩
theorem ok_law_sign (T : Txt K w mg) : FnOk P w K mg base CX0 2 (He.fAd K ("_law_sign", none)) (fdAt K (He.fAd K ("_law_sign", none))) ["game", "x", "y"] (spSg K) := by
  refine T.F_law_sign.ok scSg (fun vs H Q E h => ?_) (fun cdv A outer s H vs Q E hr h => ?_)
  · obtain ⟨g, G, x, y, rfl, _⟩ := h
    rfl
  · obtain ⟨g, G, x, y, rfl, hg, o, k⟩ := h
    refine ⟨_, PSs.nox (pss_cons (ps_asg (pe_call (ok_law_size T) (hr.mono (by first | decide | omega)) (by rfl) T.g_law_size (T.F_law_size).kp T.b_law_size .nil pass0 (pa_cons (pv 0) pa_nil)) (pg_tup (by rfl) (pgs_cons (pg_name (i := 3) scSg.nd rfl (Or.inl rfl)) (pgs_cons (pg_name (i := 4) scSg.nd rfl (Or.inl rfl)) pgs_nil))))
      (pss_cons (ps_if (PW.pt (pw_or (pt_cmpR op_lt (pv 1) pe_int (nomark _)) (pw_or (pt_cmpR op_lt (pv 2) pe_int (nomark _)) (pw_or1 (pt_cmpR op_ge (pv 1) (pv 3) (nomark _)))))) (pss_one (ps_ret pe_str)) pss_nil)
      (pss_cons (ps_if (pt_cmpR op_ge (pv 2) (pv 4) (nomark _)) (pss_one (ps_ret pe_str)) pss_nil)
      (pss_one (ps_ret (pe_ix ix_str (pe_ix (r := rIxT K) ix_tup (pe_ix (r := rIxT K) ix_tup (pe_ix (r := rIxT K) ix_tup (pv 0) pe_int (fun _ _ => rfl)) pe_int (fun _ _ => rfl)) (pe_op op_fdivW (pv 2) pe_int) (fun _ _ => rfl)) (pe_op op_fdivW (pv 1) pe_int) (fun _ _ => rfl))))))), ?_⟩
    refine ⟨_, rfl, g, G, rfl, hg, o, fun p H1 s1 hp => ?_⟩
    refine ⟨p, _, rfl, SqT.of hp, rfl, _, _, rfl, _, _, rfl, rfl, ?_⟩
    have out : ∀ {v : V}, v = sgV (G.sg x y) → Q v H1 := fun e => by rw [e]; exact k H1 s1
    have e35 : V.str "#" = sgV 35 := by decide +kernel
    have e46 : V.str "." = sgV 46 := by decide +kernel
    refine ⟨_, rfl, _, _, rfl, rfl, _, rfl, ite2 (fun z => ?_) (fun z => ?_)⟩
    · have z := of_decide_eq_true z
      exact out (by rw [Gm.sg, if_pos (.inl z)]; exact e35)
    have z1 : ¬ x < 0 := fun h => z (decide_eq_true h)
    refine ⟨_, rfl, _, _, rfl, rfl, _, rfl, ite2 (fun z => ?_) (fun z => ?_)⟩
    · have z := of_decide_eq_true z
      exact out (by rw [Gm.sg, if_pos (.inr (.inl z))]; exact e35)
    have z2 : ¬ y < 0 := fun h => z (decide_eq_true h)
    refine ⟨_, rfl, _, rfl, _, _, rfl, rfl, _, rfl, ite2 (fun z => ?_) (fun z => ?_)⟩
    · have z := of_decide_eq_true z
      exact out (by rw [Gm.sg, if_pos (.inr (.inr z))]; exact e35)
    have z3 : ¬ G.wi ≤ x := fun h => z (decide_eq_true h)
    refine ⟨_, rfl, _, rfl, _, _, rfl, rfl, _, rfl, ite2 (fun z => ?_) (fun z => ?_)⟩
    · have z := of_decide_eq_true z
      exact out (by rw [Gm.sg, if_neg (by omega), if_pos z]; exact e46)
    have z4 : ¬ G.hi ≤ y := fun h => z (decide_eq_true h)
    have d8 : ∀ i : Int, CDivW i 8 := fun i => wide_div (b := 10) (by decide) (by decide) (by decide) (by decide)
    obtain ⟨ga, lv, ks, rfl, sg, ⟨l, rs, st, pu, rfl, sl, sr⟩, _⟩ := hg.tf (same_tf s1)
    have hw : G.wi = 8 * (G.W : Int) := rfl
    have hh : G.hi = 8 * (G.rows.length : Int) := rfl
    obtain ⟨r, hr2, er⟩ : ∃ r : Nat, r < G.rows.length ∧ y / 8 = (r : Int) := ⟨(y / 8).toNat, by omega, by omega⟩
    obtain ⟨c, hc2, ec⟩ : ∃ c : Nat, c < G.W ∧ x / 8 = (c : Int) := ⟨(x / 8).toNat, by omega, by omega⟩
    have hrow := List.getElem?_eq_getElem hr2
    obtain ⟨s0, hs0⟩ : ∃ s0, s0 = G.rows[r] := ⟨_, rfl⟩
    rw [← hs0] at hrow
    have hrl : s0.length = G.W := o.wd _ (List.mem_of_getElem? hrow)
    have hcl : c < s0.cps.toList.length := by
      rw [Array.length_toList]
      show c < s0.length
      omega
    have hrv : (G.rows.map V.str)[r]? = some (.str s0) := by rw [List.getElem?_map, hrow]; rfl
    have fin : sgV s0.cps.toList[c] = sgV (G.sg x y) := by
      rw [Gm.sg, if_neg (by omega), if_neg z4, er, ec, Int.toNat_natCast, Int.toNat_natCast, Gm.cp, hrow]
      dsimp only
      rw [List.getD, List.getElem?_eq_getElem hcl]
      rfl
    refine ⟨_, rfl, ga, _, _, _, rfl, rfl, sg, atI_nat (j := 0) rfl, l, _, _, _, rfl, rfl, sl, atI_nat (j := 0) rfl, _, rfl, _, _, rfl, rfl, d8 _, rs, _, _, .str s0, rfl, rfl, sr, (by rw [er]; exact atI_nat hrv), _, rfl, _, _, rfl, rfl, d8 _, s0, _, s0.cps.toList[c], rfl, rfl, Nat.le_trans (show s0.length ≤ 30 by have := o.w2; omega) (by decide), (by rw [ec]; exact atI_nat (List.getElem?_eq_getElem hcl)), ?_⟩
    show Q (sgV s0.cps.toList[c]) H1
    rw [fin]
    exact k H1 s1
def spSgs (K : PySem.W.Frag) : Sp := fun vs H Q _ => ∃ (g u : V) (G : Gm) (b : Bx), vs = [g, u] ∧ GmAt K H g G ∧ G.ok ∧ BxAt K H u b ∧ b.lim ∧ ∀ p H', Same H H' → H' p = some (.lst ((G.sgs b).map sgV)) → Q (.ref p) H'
theorem scSs : FnScope ["game", "box", "found", "row", "column"] ["game", "box"] (defScope s_law_signs) := ⟨rfl, rfl, rfl, by decide +kernel, rfl, by decide +kernel, by decide +kernel⟩
theorem ok_law_signs (T : Txt K w mg) : FnOk P w K mg base CX0 3 (He.fAd K ("_law_signs", none)) (fdAt K (He.fAd K ("_law_signs", none))) ["game", "box"] (spSgs K) := by
  refine T.F_law_signs.ok scSs (fun vs H Q E h => ?_) (fun cdv A outer s H vs Q E hr h => ?_)
  · obtain ⟨g, u, G, b, rfl, _⟩ := h
    rfl
  · obtain ⟨g, u, G, b, rfl, hg, o, hb, lim, k⟩ := h
    refine ⟨_, PSs.nox (pss_cons (ps_set (i := 2) scSs.nd rfl (Or.inl rfl) (pe_lst pa_nil))
      (pss_cons (ps_for PassesOwn.never rfl (pi_range2 (by rfl) T.n_range (pa_cons (pe_op op_fdivW (pe_ix (r := rIxT K) ix_tup (pv 1) pe_int (fun _ _ => rfl)) pe_int) (pa_cons (pe_op op_add (pe_op op_fdivW (pe_op op_sub (pe_op op_add (pe_ix (r := rIxT K) ix_tup (pv 1) pe_int (fun _ _ => rfl)) (pe_ix (r := rIxT K) ix_tup (pv 1) pe_int (fun _ _ => rfl))) pe_int) pe_int) pe_int) pa_nil))) (pg_name (i := 3) scSs.nd rfl (Or.inl rfl)) (pss_one (ps_for PassesOwn.never rfl (pi_range2 (by rfl) T.n_range (pa_cons (pe_op op_fdivW (pe_ix (r := rIxT K) ix_tup (pv 1) pe_int (fun _ _ => rfl)) pe_int) (pa_cons (pe_op op_add (pe_op op_fdivW (pe_op op_sub (pe_op op_add (pe_ix (r := rIxT K) ix_tup (pv 1) pe_int (fun _ _ => rfl)) (pe_ix (r := rIxT K) ix_tup (pv 1) pe_int (fun _ _ => rfl))) pe_int) pe_int) pe_int) pa_nil))) (pg_name (i := 4) scSs.nd rfl (Or.inl rfl)) (pss_one (ps_expr (pe_bm PySem.F.plainAttrs_list PySem.F.slot_list_append PySem.F.type_list_append mt_append (pv 2) (pa_cons (pe_call (ok_law_sign T) (hr.mono (by first | decide | omega)) (by rfl) T.g_law_sign (T.F_law_sign).kp T.b_law_sign .nil pass0 (pa_cons (pv 0) (pa_cons (pe_op op_mulW pe_int (pv 4)) (pa_cons (pe_op op_mulW pe_int (pv 3)) pa_nil)))) pa_nil)))))))
      (pss_one (ps_ret (pv 2))))), ?_⟩
    obtain ⟨ua, rfl, su⟩ := hb
    obtain ⟨l1, l2, l3, l4, l5, l6, l7, l8⟩ := id lim
    have d8 : ∀ i : Int, CDivW i 8 := fun i => wide_div (b := 10) (by decide) (by decide) (by decide) (by decide)
    have p62 : (2 : Int) ^ 62 = 4611686018427387904 := by decide
    refine ⟨(show 0 ≤ sizeLine by decide), fun p np => ?_⟩
    have s0 := new_same (o := .lst []) np
    have su0 := (same_tf s0).sq su
    obtain ⟨lo, hlo⟩ : ∃ z, z = b.y / 8 := ⟨_, rfl⟩
    obtain ⟨hi, hhi⟩ : ∃ z, z = (b.y + b.h - 1) / 8 + 1 := ⟨_, rfl⟩
    obtain ⟨lo2, hlo2⟩ : ∃ z, z = b.x / 8 := ⟨_, rfl⟩
    obtain ⟨hi2, hhi2⟩ : ∃ z, z = (b.x + b.w - 1) / 8 + 1 := ⟨_, rfl⟩
    have cnt : ∀ i, i ≤ (hi - lo).toNat → (((rngI lo hi).take i).flatMap (G.sgr b)).length ≤ 400 := fun i hi2 => by
      have h := flat_len (sgr_len G lim) ((rngI lo hi).take i)
      rw [List.length_take, rngI_len] at h
      omega
    have k' : ∀ p H', Same H H' → H' p = some (.lst (((rngI lo hi).flatMap (G.sgr b)).map sgV)) → Q (.ref p) H' := fun p H' s h => k p H' s (by rw [h, hlo, hhi]; rfl)
    refine ⟨_, rfl, ua, _, _, _, rfl, rfl, su0, atI_nat (j := 1) rfl, _, _, rfl, rfl, d8 _, _, rfl, ua, _, _, _, rfl, rfl, su0, atI_nat (j := 1) rfl, _, rfl, ua, _, _, _, rfl, rfl, su0, atI_nat (j := 3) rfl, _, _, rfl, rfl, _, _, rfl, rfl, _, _, rfl, rfl, d8 _, _, _, rfl, rfl, lo, hi, (by rw [hlo, hhi]), (by rw [p62]; omega), ?_⟩
    refine for_range (lo := lo) (n := (hi - lo).toNat) (fun i σ H' => ∃ v3 v4 : Option V, σ = [some g, some (.ref ua), some (.ref p), v3, v4] ∧ H' p = some (.lst ((((rngI lo hi).take i).flatMap (G.sgr b)).map sgV)) ∧ Same H H') ⟨_, _, rfl, by rw [List.take_zero]; exact upd_same, s0⟩ (fun i σ H1 hi1 hPv => ?_) (fun σ H1 hPv => ?_)
    rotate_left
    · obtain ⟨v3, v4, rfl, hp1, sm⟩ := hPv
      rw [rngI_all] at hp1
      exact ⟨_, rfl, k' p H1 sm hp1⟩
    obtain ⟨v3, v4, rfl, hp1, sm⟩ := hPv
    have su1 := (same_tf sm).sq su
    refine ⟨_, rfl, ua, _, _, _, rfl, rfl, su1, atI_nat (j := 0) rfl, _, _, rfl, rfl, d8 _, _, rfl, ua, _, _, _, rfl, rfl, su1, atI_nat (j := 0) rfl, _, rfl, ua, _, _, _, rfl, rfl, su1, atI_nat (j := 2) rfl, _, _, rfl, rfl, _, _, rfl, rfl, _, _, rfl, rfl, d8 _, _, _, rfl, rfl, lo2, hi2, (by rw [hlo2, hhi2]), (by rw [p62]; omega), ?_⟩
    obtain ⟨pre, hpre⟩ : ∃ z, z = ((rngI lo hi).take i).flatMap (G.sgr b) := ⟨_, rfl⟩
    have hpl : pre.length ≤ 400 := by rw [hpre]; exact cnt i (by omega)
    rw [← hpre] at hp1
    refine for_range (lo := lo2) (n := (hi2 - lo2).toNat) (fun j σ H' => ∃ v4 : Option V, σ = [some g, some (.ref ua), some (.ref p), some (.int (lo + (i : Int))), v4] ∧ H' p = some (.lst ((pre ++ ((rngI lo2 hi2).take j).map fun c => G.sg (8 * c) (8 * (lo + (i : Int)))).map sgV)) ∧ Same H H') ⟨_, rfl, by rw [List.take_zero, List.map_nil, List.append_nil]; exact hp1, sm⟩ (fun j σ H2 hj hPv => ?_) (fun σ H2 hPv => ?_)
    rotate_left
    · obtain ⟨v4, rfl, hp2, sm2⟩ := hPv
      refine ⟨_, _, rfl, ?_, sm2⟩
      rw [hp2, rngI_all, rngI_take hi1, List.flatMap_append, ← hpre, hlo2, hhi2]
      simp [Gm.sgr]
    obtain ⟨v4, rfl, hp2, sm2⟩ := hPv
    have mw : ∀ z : Int, -1000000 ≤ z → z ≤ 1000000 → CMulW 8 z := fun z h1 h2 => wide_mul (a := 40) (b := 40) (by decide) (by
      have : z.natAbs < 2 ^ 40 := by have : (2 : Nat) ^ 40 = 1099511627776 := by decide
                                     omega
      exact this) (by decide) (by decide) (by decide)
    refine ⟨_, rfl, .inl ⟨rfl, _, SqL.of hp2⟩, _, rfl, _, rfl, _, _, rfl, rfl, mw _ (by omega) (by omega), _, rfl, _, _, rfl, rfl, mw _ (by omega) (by omega), g, G, _, _, rfl, hg.tf (same_tf sm2), o, fun H3 s3 => ?_⟩
    have hp3 := s3 _ _ hp2
    refine ⟨p, _, _, rfl, rfl, hp3, ?_, _, rfl, ?_, fun c ob z => ?_⟩
    · rw [List.length_map, List.length_append, List.length_map, List.length_take, rngI_len]
      exact Nat.lt_of_lt_of_le (show _ < 1000 by omega) (by decide)
    · rw [upd_same, rngI_take hj, List.map_append, List.map_append, List.map_append, List.map_append, List.append_assoc]
      rfl
    · rw [upd_ne (ne_of_none z np)]
      exact s3 _ _ (sm2 _ _ z)
end
end K22
set_option maxRecDepth 100000
set_option maxHeartbeats 4000000
/-! Free, stopped: the law. -/
namespace K22
open PySem PySem.Spec PyProof.Rows L2 KF KD KP
section
variable {P : Program} {w : World} {K : PySem.W.Frag} {mg : Str → Option Value} {base : Heap}
def spFr (K : PySem.W.Frag) : Sp := fun vs H Q _ => ∃ (g u : V) (G : Gm) (b : Bx), vs = [g, u] ∧ GmAt K H g G ∧ G.ok ∧ BxAt K H u b ∧ b.lim ∧ ∀ H', Same H H' → Q (.bl (G.fr b)) H'
theorem scFr : FnScope ["game", "box", "sign"] ["game", "box"] (defScope s_law_free) := ⟨rfl, rfl, rfl, by decide +kernel, rfl, by decide +kernel, by decide +kernel⟩
theorem any_sg (c : Nat) : ∀ l : List Nat, inV (sgV c) (l.map sgV) = l.any fun d => decide (d = c)
  | [] => rfl
  | d :: l => by
    have h := any_sg c l
    unfold inV at h ⊢
    rw [List.map_cons, List.any_cons, List.any_cons, h]
    congr 1
    show ((⟨#[d]⟩ : Str) == ⟨#[c]⟩) = _
    by_cases e : d = c
    · rw [e, decide_eq_true rfl]
      exact beq_self_eq_true _
    · rw [decide_eq_false e]
      exact beq_eq_false_iff_ne.mpr fun z => e (by injection z with z; simpa using z)
theorem flat_sg : ∀ l : List Nat, (l.map sgV).all flatV = true
  | [] => rfl
  | _ :: l => flat_sg l
theorem ok_law_free (T : Txt K w mg) : FnOk P w K mg base CX0 4 (He.fAd K ("_law_free", none)) (fdAt K (He.fAd K ("_law_free", none))) ["game", "box"] (spFr K) := by
  refine T.F_law_free.ok scFr (fun vs H Q E h => ?_) (fun cdv A outer s H vs Q E hr h => ?_)
  · obtain ⟨g, u, G, b, rfl, _⟩ := h
    rfl
  · obtain ⟨g, u, G, b, rfl, hg, o, hb, lim, k⟩ := h
    refine ⟨_, PSs.nox (pss_one (ps_ret (pe_callB (cr_all rfl) (by rfl) T.n_all PyProof.Rows.Boot.«all» (pa_cons (pe_lc (own := [("sign", 2)]) (g := gName 2) (tt := tYes) (by rfl) scFr.nd (pi_list (pe_call (ok_law_signs T) (hr.mono (by decide)) (by rfl) T.g_law_signs (T.F_law_signs).kp T.b_law_signs .nil pass0 (pa_cons (pv 0) (pa_cons (pv 1) pa_nil)))) (blkOk_by (by kernel_rfl)) (fun _ _ _ _ _ => pg_name (i := 2) scFr.nd rfl (Or.inl rfl)) (fun _ _ _ _ _ => pts_nil) (fun _ _ _ _ _ => pe_cmpR op_notIn_sign (pv 2) pe_str rfl)) pa_nil)))), ?_⟩
    refine ⟨_, rfl, _, rfl, g, u, G, b, rfl, hg, o, hb, lim, fun p H1 s1 hp => ⟨p, rfl, ⟨_, SqL.of hp⟩, fun D hD => ?_⟩⟩
    have hl := sgs_len G lim
    refine lc_it (walk_list (K := K) (a := p) (xs := (G.sgs b).map sgV)) (fun i H' => Acc H1 D (fl (G.sgs b) (fun _ => true) (fun c => V.bl (!wall c)) i) H') (acc_0 hD) (fun i H' _ h => SqL.of (h.1 _ _ hp)) (fun i v H' Hx hi h yy => ?_) (fun H' h => ?_)
    · obtain ⟨rfl, hv⟩ := yy
      rw [List.length_map] at hi
      have hx := List.getElem?_eq_getElem hi
      rw [List.getElem?_map, hx] at hv
      cases hv
      refine ⟨rfl, ?_⟩
      dsimp only [tYes]
      rw [if_pos rfl]
      exact ⟨_, rfl, _, _, rfl, rfl, acc_yes (f := fun c => V.bl (!wall c)) hD h (Same.refl _) hx rfl (by omega)⟩
    · rw [List.length_map, fl_every] at h
      refine ⟨D, (G.sgs b).map fun c => !wall c, rfl, SqL.of (by rw [h.2, List.map_map]; rfl), ?_⟩
      rw [List.all_map]
      exact k H' (s1.trans h.1)
def spStp (K : PySem.W.Frag) : Sp := fun vs H Q _ => ∃ (g u : V) (G : Gm) (b : Bx) (dx dy : Int), vs = [g, u, .int dx, .int dy] ∧ GmAt K H g G ∧ G.ok ∧ BxAt K H u b ∧ b.lim ∧ (b.mv dx dy).lim ∧ b.y + b.h ≤ 100000 ∧ ∀ H', Same H H' → Q (.bl (G.stp b dx dy)) H'
theorem scStp : FnScope ["game", "box", "dx", "dy", "lower"] ["game", "box", "dx", "dy"] (defScope s_law_stops) := ⟨rfl, rfl, rfl, by decide +kernel, rfl, by decide +kernel, by decide +kernel⟩
theorem ok_law_stops (T : Txt K w mg) : FnOk P w K mg base CX0 5 (He.fAd K ("_law_stops", none)) (fdAt K (He.fAd K ("_law_stops", none))) ["game", "box", "dx", "dy"] (spStp K) := by
  refine T.F_law_stops.ok scStp (fun vs H Q E h => ?_) (fun cdv A outer s H vs Q E hr h => ?_)
  · obtain ⟨g, u, G, b, dx, dy, rfl, _⟩ := h
    rfl
  · obtain ⟨g, u, G, b, dx, dy, rfl, hg, o, ⟨ua, rfl, su⟩, lim, lim2, yh, k⟩ := h
    refine ⟨_, PSs.nox (pss_cons (ps_if (pt_not (pt_val (pe_call (ok_law_free T) (hr.mono (by first | decide | omega)) (by rfl) T.g_law_free (T.F_law_free).kp T.b_law_free .nil pass0 (pa_cons (pv 0) (pa_cons (pe_tup (pa_cons (pe_op op_add (pe_ix (r := rIxT K) ix_tup (pv 1) pe_int (fun _ _ => rfl)) (pv 2)) (pa_cons (pe_op op_add (pe_ix (r := rIxT K) ix_tup (pv 1) pe_int (fun _ _ => rfl)) (pv 3)) (pa_cons (pe_ix (r := rIxT K) ix_tup (pv 1) pe_int (fun _ _ => rfl)) (pa_cons (pe_ix (r := rIxT K) ix_tup (pv 1) pe_int (fun _ _ => rfl)) pa_nil))))) pa_nil))))) (pss_one (ps_ret pe_bl)) pss_nil)
      (pss_cons (ps_set (i := 4) scStp.nd rfl (Or.inl rfl) (pe_op op_add (pe_ix (r := rIxT K) ix_tup (pv 1) pe_int (fun _ _ => rfl)) (pe_ix (r := rIxT K) ix_tup (pv 1) pe_int (fun _ _ => rfl))))
      (pss_cons (ps_if (PW.pt (pw_or (pt_cmpR op_ne (pv 3) pe_int (nomark _)) (pw_or1 (pt_cmpR op_ne (pe_op op_mod (pe_callTy call_int1 (by rfl) T.n_int PyProof.Rows.Boot.«int» (pa_cons (pv 4) pa_nil)) pe_int) pe_int (nomark _))))) (pss_one (ps_ret pe_bl)) pss_nil)
      (pss_one (ps_ret (pe_cmpR (r := rIn K false) op_in_seq pe_str (pe_call (ok_law_signs T) (hr.mono (by first | decide | omega)) (by rfl) T.g_law_signs (T.F_law_signs).kp T.b_law_signs .nil pass0 (pa_cons (pv 0) (pa_cons (pe_tup (pa_cons (pe_ix (r := rIxT K) ix_tup (pv 1) pe_int (fun _ _ => rfl)) (pa_cons (pv 4) (pa_cons (pe_ix (r := rIxT K) ix_tup (pv 1) pe_int (fun _ _ => rfl)) (pa_cons pe_int pa_nil))))) pa_nil))) rfl)))))), ?_⟩
    have e61 : V.str "=" = sgV 61 := by decide +kernel
    refine ⟨_, rfl, _, rfl, ua, _, _, _, rfl, rfl, su, atI_nat (j := 0) rfl, _, rfl, _, _, rfl, rfl, _, rfl, ua, _, _, _, rfl, rfl, su, atI_nat (j := 1) rfl, _, rfl, _, _, rfl, rfl, _, rfl, ua, _, _, _, rfl, rfl, su, atI_nat (j := 2) rfl, _, rfl, ua, _, _, _, rfl, rfl, su, atI_nat (j := 3) rfl, (show 4 ≤ sizeLine by decide), fun p np => ?_⟩
    have s1 := new_same (o := .tup (b.mv dx dy).vs) np
    have sp : SqT K (upd H p (.tup (b.mv dx dy).vs)) p (b.mv dx dy).vs := SqT.of upd_same
    refine ⟨g, .ref p, G, b.mv dx dy, rfl, hg.tf (same_tf s1), o, ⟨p, rfl, sp⟩, lim2, fun H2 s2 => ?_⟩
    have S2 := s1.trans s2
    have su2 := (same_tf S2).sq su
    have kk : ∀ {v : V} {H' : Hp}, v = V.bl (G.stp b dx dy) → Same H H' → Q v H' := fun e s => by rw [e]; exact k _ s
    cases e : G.fr (b.mv dx dy) with
    | false => exact ⟨false, rfl, iteT (kk (by rw [Gm.stp, e]; rfl) S2)⟩
    | true =>
      have e2 : G.stp b dx dy = (decide (dy = 1) && (decide ((b.y + b.h) % 8 = 0) && (G.sgs ⟨b.x, b.y + b.h, b.w, 1⟩).any fun c => decide (c = 61))) := by rw [Gm.stp, e]; rfl
      refine ⟨true, rfl, iteF ?_⟩
      refine ⟨_, rfl, ua, _, _, _, rfl, rfl, su2, atI_nat (j := 1) rfl, _, rfl, ua, _, _, _, rfl, rfl, su2, atI_nat (j := 3) rfl, _, _, rfl, rfl, ?_⟩
      refine ⟨_, rfl, rfl, _, rfl, ite2 (fun z => ?_) (fun z => ?_)⟩
      · refine kk ?_ S2
        have hz : ¬ dy = 1 := fun q => by rw [q] at z; exact absurd z (by decide)
        rw [e2, decide_eq_false hz]
        rfl
      have hdy : dy = 1 := Classical.byContradiction fun q => z (by rw [decide_eq_false (fun p => q (by injection p))]; rfl)
      refine ⟨_, rfl, .inl ⟨_, rfl, _, _, rfl, rfl, (show (0 : Int) < 8 by decide), rfl, _, rfl, ite2 (fun z => ?_) (fun z => ?_)⟩⟩
      · refine kk ?_ S2
        have hz : ¬ (b.y + b.h) % 8 = 0 := fun q => by
          have z : (!decide (V.int ((b.y + b.h) % 8) = V.int 0)) = true := z
          rw [q] at z
          exact absurd z (by decide)
        rw [e2, decide_eq_false hz]
        simp
      have h8 : (b.y + b.h) % 8 = 0 := Classical.byContradiction fun q => z (by
        show (!decide (V.int ((b.y + b.h) % 8) = V.int 0)) = true
        rw [decide_eq_false (fun p => q (by injection p))]; rfl)
      refine ⟨_, rfl, _, rfl, ua, _, _, _, rfl, rfl, su2, atI_nat (j := 0) rfl, _, rfl, _, rfl, ua, _, _, _, rfl, rfl, su2, atI_nat (j := 2) rfl, (show 4 ≤ sizeLine by decide), fun p3 np3 => ?_⟩
      have s3 := new_same (o := .tup (Bx.mk b.x (b.y + b.h) b.w 1).vs) np3
      have sp3 : SqT K (upd H2 p3 (.tup (Bx.mk b.x (b.y + b.h) b.w 1).vs)) p3 (Bx.mk b.x (b.y + b.h) b.w 1).vs := SqT.of upd_same
      obtain ⟨l1, l2, l3, l4, l5, l6, l7, l8⟩ := id lim
      obtain ⟨m1, m2, m3, m4, m5, m6, m7, m8⟩ := id lim2
      have m4 : b.y + dy ≤ 100000 := m4
      have lim3 : (Bx.mk b.x (b.y + b.h) b.w 1).lim := ⟨l1, l2, show -100000 ≤ b.y + b.h by omega, ?_, l5, l6, show (1 : Int) ≤ 1 by decide, show (1 : Int) ≤ 100 by decide⟩
      rotate_left
      · exact yh
      refine ⟨g, .ref p3, G, _, rfl, hg.tf (same_tf (S2.trans s3)), o, ⟨p3, rfl, sp3⟩, lim3, fun p4 H4 s4 hp4 => ?_⟩
      refine ⟨p4, _, rfl, .inl (SqL.of hp4), rfl, flat_sg _, kk ?_ ((S2.trans s3).trans s4)⟩
      rw [e2, hdy, h8, e61]
      show V.bl (inV (sgV 61) _) = _
      rw [any_sg]
      rfl
end
end K22
set_option maxRecDepth 100000
set_option maxHeartbeats 4000000
/-! Clear, barred: the program. -/
namespace K22
open PySem PySem.Spec PyProof.Rows L2 KF KD KP
def cutL {α : Type} (l : List α) (t e : Nat) : List α := (l.drop (min t l.length)).take (min e l.length - min t l.length)
theorem cutL_mem {α : Type} {l : List α} {t e : Nat} {x : α} : x ∈ cutL l t e ↔ ∃ i, t ≤ i ∧ i < e ∧ l[i]? = some x := by
  constructor
  · intro h
    obtain ⟨j, hj⟩ := List.mem_iff_getElem?.mp h
    rw [cutL, List.getElem?_take] at hj
    split at hj
    · rw [List.getElem?_drop] at hj
      have := (List.getElem?_eq_some_iff.mp hj).1
      exact ⟨min t l.length + j, by omega, by omega, hj⟩
    · cases hj
  · rintro ⟨i, h1, h2, h3⟩
    have := (List.getElem?_eq_some_iff.mp h3).1
    refine List.mem_iff_getElem?.mpr ⟨i - min t l.length, ?_⟩
    rw [cutL, List.getElem?_take, if_pos (by omega), List.getElem?_drop, show min t l.length + (i - min t l.length) = i by omega]
    exact h3
theorem slA_gen {K : PySem.W.Frag} {H : Hp} {a : Addr} {xs : List V} {lo hi : Option Int} {Q : VK} (h : SqT K H a xs) (q : ∀ p H', Same H H' → SqT K H' p (cutV xs lo hi) → Q (.ref p) H') : rSlA K (.ref a) lo hi H Q := by
  refine ⟨a, xs, rfl, h, fun e => q a H (Same.refl _) ?_, fun _ p np => q p _ (new_same np) (SqT.of upd_same)⟩
  have e2 : cutV xs lo hi = xs := by
    unfold cutV
    rw [e.1, e.2, List.drop_zero, Nat.sub_zero, List.take_length]
  rw [e2]
  exact h
def mx0 (z : Int) : Int := if z > 0 then z else 0
theorem sIx_mx (n d : Nat) (z : Int) : HT.sIx n d (some (mx0 z)) = min (mx0 z).toNat n := by
  have h : ¬ mx0 z < 0 := by unfold mx0; split <;> omega
  show (if mx0 z < 0 then (mx0 z + (n : Int)).toNat else min (mx0 z).toNat n) = _
  rw [if_neg h]
/-- the signs of a row within a box, as the program cuts them -/
def Bx.cut (b : Bx) (s : Str) : Str := ⟨(cutL s.cps.toList (mx0 (b.x / 8)).toNat (mx0 ((b.x + b.w - 1) / 8 + 1)).toNat).toArray⟩
def Gm.ins (G : Gm) (b : Bx) : List Str := (cutL G.rows (mx0 (b.y / 8)).toNat (mx0 ((b.y + b.h - 1) / 8 + 1)).toNat).map b.cut
theorem cutV_strs (l : List Str) (x y : Int) : cutV (l.map V.str) (some (mx0 x)) (some (mx0 y)) = (cutL l (mx0 x).toNat (mx0 y).toNat).map V.str := by
  unfold cutV cutL
  rw [List.length_map, sIx_mx, sIx_mx, List.map_take, List.map_drop]
theorem cutS_cut (b : Bx) (s : Str) : cutS s (some (mx0 (b.x / 8))) (some (mx0 ((b.x + b.w - 1) / 8 + 1))) = b.cut s := by
  unfold cutS Bx.cut cutL
  rw [sIx_mx, sIx_mx, Array.length_toList]
  rfl
section
variable {P : Program} {w : World} {K : PySem.W.Frag} {mg : Str → Option Value} {base : Heap}
def spIns (K : PySem.W.Frag) : Sp := fun vs H Q _ => ∃ (v u : V) (G : Gm) (b : Bx), vs = [v, u] ∧ LvAt K H v G ∧ G.ok ∧ BxAt K H u b ∧ b.lim ∧ ∀ p H', Same H H' → H' p = some (.lst ((G.ins b).map V.str)) → Q (.ref p) H'
theorem scIns : FnScope ["level", "box", "x", "y", "wide", "high", "top", "end", "left", "right", "row"] ["level", "box"] (defScope s_signs_in) := ⟨rfl, rfl, rfl, by decide +kernel, rfl, by decide +kernel, by decide +kernel⟩
theorem ok_signs_in (T : Txt K w mg) : FnOk P w K mg base CX0 1 (He.fAd K ("signs_in", none)) (fdAt K (He.fAd K ("signs_in", none))) ["level", "box"] (spIns K) := by
  obtain ⟨u1, g1, r1⟩ := T.c_SQUARE
  refine T.F_signs_in.ok scIns (fun vs H Q E h => ?_) (fun cdv A outer s H vs Q E hr h => ?_)
  · obtain ⟨v, u, G, b, rfl, _⟩ := h
    rfl
  · obtain ⟨v, u, G, b, rfl, ⟨l, rs, st, pu, rfl, sl, sr⟩, o, ⟨ua, rfl, su⟩, lim, k⟩ := h
    refine ⟨_, PSs.nox (pss_cons (ps_asg (pv 1) (pg_tup (by rfl) (pgs_cons (pg_name (i := 2) scIns.nd rfl (Or.inl rfl)) (pgs_cons (pg_name (i := 3) scIns.nd rfl (Or.inl rfl)) (pgs_cons (pg_name (i := 4) scIns.nd rfl (Or.inl rfl)) (pgs_cons (pg_name (i := 5) scIns.nd rfl (Or.inl rfl)) pgs_nil))))))
      (pss_cons (ps_set (i := 6) scIns.nd rfl (Or.inl rfl) (pe_callB (call_max2 rfl) (by rfl) T.n_max PyProof.Rows.Boot.«max» (pa_cons pe_int (pa_cons (pe_op op_fdivW (pv 3) (pe_glob (v := .int 8) (by rfl) g1 r1)) pa_nil))))
      (pss_cons (ps_set (i := 7) scIns.nd rfl (Or.inl rfl) (pe_callB (call_max2 rfl) (by rfl) T.n_max PyProof.Rows.Boot.«max» (pa_cons pe_int (pa_cons (pe_op op_add (pe_op op_fdivW (pe_op op_sub (pe_op op_add (pv 3) (pv 5)) pe_int) (pe_glob (v := .int 8) (by rfl) g1 r1)) pe_int) pa_nil))))
      (pss_cons (ps_set (i := 8) scIns.nd rfl (Or.inr rfl) (pe_callB (call_max2 rfl) (by rfl) T.n_max PyProof.Rows.Boot.«max» (pa_cons pe_int (pa_cons (pe_op op_fdivW (pv 2) (pe_glob (v := .int 8) (by rfl) g1 r1)) pa_nil))))
      (pss_cons (ps_set (i := 9) scIns.nd rfl (Or.inr rfl) (pe_callB (call_max2 rfl) (by rfl) T.n_max PyProof.Rows.Boot.«max» (pa_cons pe_int (pa_cons (pe_op op_add (pe_op op_fdivW (pe_op op_sub (pe_op op_add (pv 2) (pv 4)) pe_int) (pe_glob (v := .int 8) (by rfl) g1 r1)) pe_int) pa_nil))))
      (pss_one (ps_ret (pe_lc (own := [("row", 10)]) (g := gName 10) (tt := tYes) (by rfl) scIns.nd (pi_tup (pe_slice (show SlR _ (rSlA K) from sl_tupA) (pe_ix (r := rIxT K) ix_tup (pv 0) pe_int (fun _ _ => rfl)) (po_some (pv 6)) (po_some (pv 7)))) (blkOk_by (own := [("row", 10)]) (N := ["level", "box", "x", "y", "wide", "high", "top", "end", "left", "right", "row"]) (sc := defScope s_signs_in) (by decide +kernel)) (fun _ _ _ _ _ => pg_name (i := 10) scIns.nd rfl (Or.inl rfl)) (fun _ _ _ _ _ => pts_nil) (fun _ _ _ _ _ => (pe_slice sl_str (pv 10) (po_some (pv 8)) (po_some (pv 9)))))))))))), ?_⟩
    have d8 : ∀ i : Int, CDivW i 8 := fun i => wide_div (b := 10) (by decide) (by decide) (by decide) (by decide)
    refine ⟨_, rfl, ua, _, rfl, su, rfl, _, _, rfl, _, _, rfl, _, _, rfl, _, _, rfl, rfl, ?_⟩
    refine ⟨_, rfl, _, _, rfl, rfl, d8 _, _, _, rfl, _, rfl, _, rfl, _, _, rfl, rfl, _, _, rfl, rfl, _, _, rfl, rfl, d8 _, _, _, rfl, rfl, _, _, rfl, _, rfl, _, _, rfl, rfl, d8 _, _, _, rfl, _, rfl, _, rfl, _, _, rfl, rfl, _, _, rfl, rfl, _, _, rfl, rfl, d8 _, _, _, rfl, rfl, _, _, rfl, ?_⟩
    obtain ⟨ss, hss⟩ : ∃ ss, ss = cutL G.rows (mx0 (b.y / 8)).toNat (mx0 ((b.y + b.h - 1) / 8 + 1)).toNat := ⟨_, rfl⟩
    have sub : ∀ s ∈ ss, s ∈ G.rows := fun s hs => by
      rw [hss] at hs
      obtain ⟨j, _, _, h2⟩ := cutL_mem.mp hs
      exact List.mem_of_getElem? h2
    have ssl : ss.length ≤ 20 := by
      rw [hss, cutL, List.length_take, List.length_drop]
      have := o.r2
      omega
    refine ⟨_, rfl, l, _, _, _, rfl, rfl, sl, atI_nat (j := 0) rfl, _, rfl, _, rfl, _, rfl, _, rfl, slA_gen sr fun p H1 s1 hp => ?_⟩
    have hp : SqT K H1 p (ss.map V.str) := by
      rw [hss, ← cutV_strs]
      exact hp
    refine ⟨p, rfl, ⟨_, hp⟩, fun D hD => ?_⟩
    refine lc_it (walk_tup (K := K) (a := p) (xs := ss.map V.str)) (fun i H' => Acc H1 D (fl ss (fun _ => true) (fun s => V.str (b.cut s)) i) H') (acc_0 hD) (fun i H' _ h => (same_tf h.1).sq hp) (fun i v H' Hx hi h yy => ?_) (fun H' h => ?_)
    · obtain ⟨rfl, hv⟩ := yy
      rw [List.length_map] at hi
      have hx := List.getElem?_eq_getElem hi
      rw [List.getElem?_map, hx] at hv
      cases hv
      refine ⟨rfl, ?_⟩
      dsimp only [tYes]
      rw [if_pos rfl]
      have sl2 : ss[i].length ≤ sizeLine := by
        have hm : ss[i] ∈ G.rows := sub _ (List.getElem_mem hi)
        rw [o.wd _ hm]
        exact Nat.le_trans (show G.W ≤ 30 from o.w2) (by decide)
      refine ⟨_, rfl, _, rfl, _, rfl, _, rfl, _, rfl, _, rfl, sl2, ?_⟩
      have ec := cutS_cut b ss[i]
      unfold mx0 at ec
      rw [ec]
      exact acc_yes (f := fun s => V.str (b.cut s)) hD h (Same.refl _) hx rfl (by omega)
    · rw [List.length_map, fl_every] at h
      exact k D H' (s1.trans h.1) (by rw [h.2, Gm.ins, ← hss, List.map_map]; rfl)
/-! ### what is clear -/
theorem wall35 : wall 35 = true := by decide +kernel
theorem wall46 : wall 46 = false := by decide +kernel
theorem sgs_mem {G : Gm} {b : Bx} {c : Nat} : c ∈ G.sgs b ↔ ∃ r x : Int, (b.y / 8 ≤ r ∧ r < (b.y + b.h - 1) / 8 + 1) ∧ (b.x / 8 ≤ x ∧ x < (b.x + b.w - 1) / 8 + 1) ∧ G.sg (8 * x) (8 * r) = c := by
  rw [Gm.sgs, List.mem_flatMap]
  constructor
  · rintro ⟨r, hr, h⟩
    rw [Gm.sgr, List.mem_map] at h
    obtain ⟨x, hx, e⟩ := h
    exact ⟨r, x, rngI_mem.mp hr, rngI_mem.mp hx, e⟩
  · rintro ⟨r, x, hr, hx, e⟩
    exact ⟨r, rngI_mem.mpr hr, by rw [Gm.sgr, List.mem_map]; exact ⟨x, rngI_mem.mpr hx, e⟩⟩
theorem fr_out {G : Gm} {b : Bx} (l : b.lim) (h : b.x < 0 ∨ b.y < 0 ∨ b.x + b.w > G.wi) : G.fr b = false := by
  obtain ⟨l1, l2, l3, l4, l5, l6, l7, l8⟩ := l
  have hw : G.wi = 8 * (G.W : Int) := rfl
  refine Bool.eq_false_iff.mpr fun z => ?_
  have z := List.all_eq_true.mp z
  have bad : 35 ∈ G.sgs b → False := fun hm => by
    have := z _ hm
    rw [wall35] at this
    cases this
  rcases h with h | h | h
  · exact bad (sgs_mem.mpr ⟨b.y / 8, b.x / 8, by omega, by omega, by rw [Gm.sg, if_pos (.inl (by omega))]⟩)
  · exact bad (sgs_mem.mpr ⟨b.y / 8, b.x / 8, by omega, by omega, by rw [Gm.sg, if_pos (.inr (.inl (by omega)))]⟩)
  · exact bad (sgs_mem.mpr ⟨b.y / 8, (b.x + b.w - 1) / 8, by omega, by omega, by rw [Gm.sg, if_pos (.inr (.inr (by omega)))]⟩)
/-- within the sides: what the program cuts is what stands in the squares of the floor -/
theorem ins_mem {G : Gm} {b : Bx} (o : G.ok) (l : b.lim) (hx : 0 ≤ b.x) (hy : 0 ≤ b.y) (hw : b.x + b.w ≤ G.wi) {c : Nat} : (∃ s ∈ G.ins b, c ∈ s.cps.toList) ↔ ∃ r x : Int, (b.y / 8 ≤ r ∧ r < (b.y + b.h - 1) / 8 + 1) ∧ (b.x / 8 ≤ x ∧ x < (b.x + b.w - 1) / 8 + 1) ∧ 8 * r < G.hi ∧ G.sg (8 * x) (8 * r) = c := by
  obtain ⟨l1, l2, l3, l4, l5, l6, l7, l8⟩ := l
  have hw2 : G.wi = 8 * (G.W : Int) := rfl
  have hh2 : G.hi = 8 * (G.rows.length : Int) := rfl
  have m1 : mx0 (b.y / 8) = b.y / 8 := by unfold mx0; split <;> omega
  have m2 : mx0 ((b.y + b.h - 1) / 8 + 1) = (b.y + b.h - 1) / 8 + 1 := by unfold mx0; split <;> omega
  have m3 : mx0 (b.x / 8) = b.x / 8 := by unfold mx0; split <;> omega
  have m4 : mx0 ((b.x + b.w - 1) / 8 + 1) = (b.x + b.w - 1) / 8 + 1 := by unfold mx0; split <;> omega
  have key : ∀ (r k : Nat) (s : Str), G.rows[r]? = some s → k < G.W → G.sg (8 * (k : Int)) (8 * (r : Int)) = s.cps.toList.getD k 46 := fun r k s hs hk => by
    have hr := (List.getElem?_eq_some_iff.mp hs).1
    rw [Gm.sg, if_neg (by omega), if_neg (by omega), Gm.cp, show (8 * (r : Int) / 8).toNat = r by omega, show (8 * (k : Int) / 8).toNat = k by omega, hs]
  constructor
  · rintro ⟨s, hs, hc⟩
    rw [Gm.ins, List.mem_map] at hs
    obtain ⟨s0, hs0, rfl⟩ := hs
    obtain ⟨r, r1, r2, hr⟩ := cutL_mem.mp hs0
    rw [m1] at r1
    rw [m2] at r2
    have hc : c ∈ cutL s0.cps.toList (mx0 (b.x / 8)).toNat (mx0 ((b.x + b.w - 1) / 8 + 1)).toNat := by
      rw [Bx.cut] at hc
      simpa using hc
    obtain ⟨k, k1, k2, hk⟩ := cutL_mem.mp hc
    rw [m3] at k1
    rw [m4] at k2
    have hrl := (List.getElem?_eq_some_iff.mp hr).1
    refine ⟨r, k, by omega, by omega, by omega, ?_⟩
    rw [key r k s0 hr (by omega), List.getD, hk]
    rfl
  · rintro ⟨r, x, hr, hx2, hlt, e⟩
    obtain ⟨rn, rfl⟩ := Int.eq_ofNat_of_zero_le (show 0 ≤ r by omega)
    obtain ⟨k, rfl⟩ := Int.eq_ofNat_of_zero_le (show 0 ≤ x by omega)
    have hrl : rn < G.rows.length := by omega
    have hkl : k < G.W := by omega
    have hrow := List.getElem?_eq_getElem hrl
    obtain ⟨s0, hs0⟩ : ∃ s0, s0 = G.rows[rn] := ⟨_, rfl⟩
    rw [← hs0] at hrow
    have hsl : s0.cps.toList.length = G.W := by
      rw [Array.length_toList]
      exact o.wd _ (List.mem_of_getElem? hrow)
    refine ⟨b.cut s0, ?_, ?_⟩
    · rw [Gm.ins, List.mem_map]
      exact ⟨s0, cutL_mem.mpr ⟨rn, by rw [m1]; omega, by rw [m2]; omega, hrow⟩, rfl⟩
    · rw [key rn k s0 hrow hkl, List.getD, List.getElem?_eq_getElem (by omega)] at e
      have hm : c ∈ cutL s0.cps.toList (mx0 (b.x / 8)).toNat (mx0 ((b.x + b.w - 1) / 8 + 1)).toNat := cutL_mem.mpr ⟨k, by rw [m3]; omega, by rw [m4]; omega, by rw [List.getElem?_eq_getElem (by omega)]; exact congrArg some e⟩
      rw [Bx.cut]
      simpa using hm
theorem sg_low {G : Gm} {x y : Int} (h0 : 0 ≤ x) (h1 : x < G.wi) (h2 : 0 ≤ y) (h3 : G.hi ≤ y) : G.sg x y = 46 := by
  rw [Gm.sg, if_neg (by omega), if_pos h3]
theorem fr_in {G : Gm} {b : Bx} (o : G.ok) (l : b.lim) (hx : 0 ≤ b.x) (hy : 0 ≤ b.y) (hw : b.x + b.w ≤ G.wi) : (G.fr b = true ↔ ∀ s ∈ G.ins b, ∀ c ∈ s.cps.toList, wall c = false) := by
  have hw2 : G.wi = 8 * (G.W : Int) := rfl
  have im := fun c => ins_mem (c := c) o l hx hy hw
  obtain ⟨l1, l2, l3, l4, l5, l6, l7, l8⟩ := l
  rw [Gm.fr, List.all_eq_true]
  constructor
  · intro h s hs c hc
    obtain ⟨r, x, h1, h2, _, e⟩ := (im c).mp ⟨s, hs, hc⟩
    have := h c (sgs_mem.mpr ⟨r, x, h1, h2, e⟩)
    simpa using this
  · intro h c hc
    obtain ⟨r, x, h1, h2, e⟩ := sgs_mem.mp hc
    by_cases hlt : 8 * r < G.hi
    · obtain ⟨s, hs, hc2⟩ := (im c).mpr ⟨r, x, h1, h2, hlt, e⟩
      rw [h s hs c hc2]
      rfl
    · rw [sg_low (by omega) (by omega) (by omega) (by omega)] at e
      rw [← e, wall46]
      rfl
end
end K22
set_option maxRecDepth 100000
set_option maxHeartbeats 4000000
/-! Clear, held up, barred. -/
namespace K22
open PySem PySem.Spec PyProof.Rows L2 KF KD KP
section
variable {P : Program} {w : World} {K : PySem.W.Frag} {mg : Str → Option Value} {base : Heap}
def spClr (K : PySem.W.Frag) : Sp := fun vs H Q _ => ∃ (v u : V) (G : Gm) (b : Bx), vs = [v, u] ∧ LvAt K H v G ∧ G.ok ∧ BxAt K H u b ∧ b.lim ∧ ∀ H', Same H H' → Q (.bl (G.fr b)) H'
theorem scClr : FnScope ["level", "box", "wide", "signs", "sign"] ["level", "box"] (defScope s_is_clear) := ⟨rfl, rfl, rfl, by decide +kernel, rfl, by decide +kernel, by decide +kernel⟩
theorem ok_is_clear (T : Txt K w mg) : FnOk P w K mg base CX0 2 (He.fAd K ("is_clear", none)) (fdAt K (He.fAd K ("is_clear", none))) ["level", "box"] (spClr K) := by
  obtain ⟨u1, g1, r1⟩ := T.c_WALLS
  refine T.F_is_clear.ok scClr (fun vs H Q E h => ?_) (fun cdv A outer s H vs Q E hr h => ?_)
  · obtain ⟨v, u, G, b, rfl, _⟩ := h
    rfl
  · obtain ⟨v, u, G, b, rfl, lv, o, hb, lim, k⟩ := h
    refine ⟨_, PSs.nox (pss_cons (ps_set (i := 2) scClr.nd rfl (Or.inl rfl) (pe_ix (r := rIxT K) ix_tup (pe_call (ok_extent T) (hr.mono (by first | decide | omega)) (by rfl) T.g_extent (T.F_extent).kp T.b_extent .nil pass0 (pa_cons (pv 0) pa_nil)) pe_int (fun _ _ => rfl)))
      (pss_cons (ps_if (PW.pt (pw_or (pt_cmpR op_lt (pe_ix (r := rIxT K) ix_tup (pv 1) pe_int (fun _ _ => rfl)) pe_int (nomark _)) (pw_or (pt_cmpR op_lt (pe_ix (r := rIxT K) ix_tup (pv 1) pe_int (fun _ _ => rfl)) pe_int (nomark _)) (pw_or1 (pt_cmpR op_gt (pe_op op_add (pe_ix (r := rIxT K) ix_tup (pv 1) pe_int (fun _ _ => rfl)) (pe_ix (r := rIxT K) ix_tup (pv 1) pe_int (fun _ _ => rfl))) (pv 2) (nomark _)))))) (pss_one (ps_ret pe_bl)) pss_nil)
      (pss_cons (ps_for PassesOwn.never rfl (pi_list (pe_call (ok_signs_in T) (hr.mono (by first | decide | omega)) (by rfl) T.g_signs_in (T.F_signs_in).kp T.b_signs_in .nil pass0 (pa_cons (pv 0) (pa_cons (pv 1) pa_nil)))) (pg_name (i := 3) scClr.nd rfl (Or.inl rfl)) (pss_one (ps_for PassesOwn.never rfl (pi_str (pv 3)) (pg_name (i := 4) scClr.nd rfl (Or.inl rfl)) (pss_one (ps_if (pt_cmpR op_in_sign (pv 4) (pe_glob (v := .str "#<>") (by rfl) g1 r1) rfl) (pss_one (ps_ret pe_bl)) pss_nil)))))
      (pss_one (ps_ret pe_bl))))), ?_⟩
    obtain ⟨ua, rfl, su⟩ := id hb
    refine ⟨_, rfl, v, G, rfl, lv, o, fun p H1 s1 hp => ⟨p, _, _, _, rfl, rfl, SqT.of hp, at0, ?_⟩⟩
    have su1 := (same_tf s1).sq su
    have out : G.fr b = false → Q (.bl false) H1 := fun e => by rw [← e]; exact k H1 s1
    refine ⟨_, rfl, ua, _, _, _, rfl, rfl, su1, atI_nat (j := 0) rfl, _, _, rfl, rfl, _, rfl, ite2 (fun z => out (fr_out lim (.inl (of_decide_eq_true z)))) (fun z1 => ?_)⟩
    refine ⟨_, rfl, ua, _, _, _, rfl, rfl, su1, atI_nat (j := 1) rfl, _, _, rfl, rfl, _, rfl, ite2 (fun z => out (fr_out lim (.inr (.inl (of_decide_eq_true z))))) (fun z2 => ?_)⟩
    refine ⟨_, rfl, ua, _, _, _, rfl, rfl, su1, atI_nat (j := 0) rfl, _, rfl, ua, _, _, _, rfl, rfl, su1, atI_nat (j := 2) rfl, _, _, rfl, rfl, _, rfl, _, _, rfl, rfl, _, rfl, ite2 (fun z => out (fr_out lim (.inr (.inr (of_decide_eq_true z))))) (fun z3 => ?_)⟩
    have h1 : 0 ≤ b.x := Int.not_lt.mp fun h => z1 (decide_eq_true h)
    have h2 : 0 ≤ b.y := Int.not_lt.mp fun h => z2 (decide_eq_true h)
    have h3 : b.x + b.w ≤ G.wi := Int.not_lt.mp fun h => z3 (decide_eq_true h)
    have fi := fr_in o lim h1 h2 h3
    refine ⟨_, rfl, _, rfl, v, .ref ua, G, b, rfl, lv.tf (same_tf s1), o, ⟨ua, rfl, su1⟩, lim, fun q H2 s2 hq => ?_⟩
    have S2 := s1.trans s2
    refine ⟨q, rfl, ⟨_, SqL.of hq⟩, ?_⟩
    refine for_list (xs := (G.ins b).map V.str) (fun i σ H' => ∃ v3 v4 : Option V, σ = [some v, some (.ref ua), some (.int G.wi), v3, v4] ∧ H' = H2 ∧ ∀ s ∈ (G.ins b).take i, ∀ c ∈ s.cps.toList, wall c = false) ⟨_, _, rfl, rfl, fun s hs => by rw [List.take_zero] at hs; cases hs⟩ (fun i σ H' _ h => by obtain ⟨_, _, _, rfl, _⟩ := h; exact SqL.of hq) (fun i y σ H' hy hPv => ?_) (fun σ H' hPv => ?_)
    rotate_left
    · obtain ⟨v3, v4, rfl, rfl, hall⟩ := hPv
      rw [List.length_map, List.take_length] at hall
      have e : G.fr b = true := fi.mpr hall
      rw [e] at k
      exact k H' S2
    obtain ⟨v3, v4, rfl, rfl, hall⟩ := hPv
    have hi : i < (G.ins b).length := by
      have := (List.getElem?_eq_some_iff.mp hy).1
      rwa [List.length_map] at this
    have hx := List.getElem?_eq_getElem hi
    obtain ⟨s0, hs0⟩ : ∃ s0, s0 = (G.ins b)[i] := ⟨_, rfl⟩
    rw [← hs0] at hx
    rw [List.getElem?_map, hx] at hy
    cases hy
    refine ⟨_, rfl, s0, rfl, ?_⟩
    refine L2.for_it walk_str (fun j σ H'' => ∃ v4 : Option V, σ = [some v, some (.ref ua), some (.int G.wi), some (.str s0), v4] ∧ H'' = H' ∧ ∀ c ∈ s0.cps.toList.take j, wall c = false) ⟨_, rfl, rfl, fun c hc => by rw [List.take_zero] at hc; cases hc⟩ (fun _ _ _ _ _ => trivial) (fun j y σ Ha Hb hj hPv hy => ?_) (fun σ Ha hPv => ?_)
    rotate_left
    · obtain ⟨v4, rfl, rfl, hc⟩ := hPv
      refine ⟨_, _, rfl, rfl, fun s hs => ?_⟩
      rw [List.take_add_one, hx] at hs
      rcases List.mem_append.mp hs with hs | hs
      · exact hall s hs
      · have e : s = s0 := by simpa using hs
        rw [e]
        rw [List.take_of_length_le (by rw [Array.length_toList]; exact Nat.le_refl _)] at hc
        exact hc
    obtain ⟨v4, rfl, rfl, hc⟩ := hPv
    obtain ⟨rfl, c, hcj, rfl⟩ := hy
    have hcl : s0.cps.toList[j]? = some c := by rw [Array.getElem?_toList]; exact hcj
    refine ⟨_, rfl, c, _, rfl, rfl, _, rfl, ite2 (fun z => ?_) (fun z => ?_)⟩
    · have e : G.fr b = false := by
        cases e : G.fr b with
        | false => rfl
        | true =>
          have := fi.mp e s0 (List.mem_of_getElem? hx) c (List.mem_of_getElem? hcl)
          have z : wall c = true := z
          rw [this] at z
          cases z
      rw [e] at k
      exact k _ S2
    · refine ⟨_, rfl, rfl, fun d hd => ?_⟩
      rw [List.take_add_one, hcl] at hd
      rcases List.mem_append.mp hd with hd | hd
      · exact hc d hd
      · have e : d = c := by simpa using hd
        rw [e]
        cases e2 : wall c with
        | false => rfl
        | true => exact absurd e2 z
theorem fr_true {G : Gm} {b : Bx} (l : b.lim) (h : G.fr b = true) : 0 ≤ b.x ∧ 0 ≤ b.y ∧ b.x + b.w ≤ G.wi := by
  refine ⟨Int.not_lt.mp fun z => ?_, Int.not_lt.mp fun z => ?_, Int.not_lt.mp fun z => ?_⟩
  · rw [fr_out l (.inl z)] at h; cases h
  · rw [fr_out l (.inr (.inl z))] at h; cases h
  · rw [fr_out l (.inr (.inr z))] at h; cases h
/-- ledges below -/
theorem ledge {G : Gm} {b : Bx} (o : G.ok) (l : b.lim) (hx : 0 ≤ b.x) (hy : 0 ≤ b.y) (hw : b.x + b.w ≤ G.wi) : ((G.ins b).any fun s => decide (61 ∈ s.cps.toList)) = (G.sgs b).any fun c => decide (c = 61) := by
  have hw2 : G.wi = 8 * (G.W : Int) := rfl
  have im := fun c => ins_mem (c := c) o l hx hy hw
  obtain ⟨l1, l2, l3, l4, l5, l6, l7, l8⟩ := l
  rw [Bool.eq_iff_iff, List.any_eq_true, List.any_eq_true]
  constructor
  · rintro ⟨s, hs, hc⟩
    obtain ⟨r, x, h1, h2, _, e⟩ := (im 61).mp ⟨s, hs, of_decide_eq_true hc⟩
    exact ⟨61, sgs_mem.mpr ⟨r, x, h1, h2, e⟩, by decide⟩
  · rintro ⟨c, hc, h61⟩
    have h61 := of_decide_eq_true h61
    subst h61
    obtain ⟨r, x, h1, h2, e⟩ := sgs_mem.mp hc
    have hlt : 8 * r < G.hi := Int.not_le.mp fun z => by
      rw [sg_low (by omega) (by omega) (by omega) z] at e
      exact absurd e (by decide)
    obtain ⟨s, hs, hc2⟩ := (im 61).mpr ⟨r, x, h1, h2, hlt, e⟩
    exact ⟨s, hs, decide_eq_true hc2⟩
def spHu (K : PySem.W.Frag) : Sp := fun vs H Q _ => ∃ (v u : V) (G : Gm) (b : Bx), vs = [v, u] ∧ LvAt K H v G ∧ G.ok ∧ BxAt K H u b ∧ b.lim ∧ (b.mv 0 1).lim ∧ b.y + b.h ≤ 100000 ∧ ∀ H', Same H H' → Q (.bl (G.stp b 0 1)) H'
theorem scHu : FnScope ["level", "box", "x", "y", "wide", "high", "side", "signs"] ["level", "box"] (defScope s_is_held_up) := ⟨rfl, rfl, rfl, by decide +kernel, rfl, by decide +kernel, by decide +kernel⟩
theorem ok_is_held_up (T : Txt K w mg) : FnOk P w K mg base CX0 3 (He.fAd K ("is_held_up", none)) (fdAt K (He.fAd K ("is_held_up", none))) ["level", "box"] (spHu K) := by
  obtain ⟨u1, g1, r1⟩ := T.c_SQUARE
  refine T.F_is_held_up.ok scHu (fun vs H Q E h => ?_) (fun cdv A outer s H vs Q E hr h => ?_)
  · obtain ⟨v, u, G, b, rfl, _⟩ := h
    rfl
  · obtain ⟨v, u, G, b, rfl, lv, o, hb, lim, lim2, yh, k⟩ := h
    refine ⟨_, PSs.nox (pss_cons (ps_if (pt_not (pt_val (pe_call (ok_is_clear T) (hr.mono (by first | decide | omega)) (by rfl) T.g_is_clear (T.F_is_clear).kp T.b_is_clear .nil pass0 (pa_cons (pv 0) (pa_cons (pe_call (ok_moved T) (hr.mono (by first | decide | omega)) (by rfl) T.g_moved (T.F_moved).kp T.b_moved .nil pass0 (pa_cons (pv 1) (pa_cons pe_int (pa_cons pe_int pa_nil)))) pa_nil))))) (pss_one (ps_ret pe_bl)) pss_nil)
      (pss_cons (ps_asg (pv 1) (pg_tup (by rfl) (pgs_cons (pg_name (i := 2) scHu.nd rfl (Or.inl rfl)) (pgs_cons (pg_name (i := 3) scHu.nd rfl (Or.inl rfl)) (pgs_cons (pg_name (i := 4) scHu.nd rfl (Or.inl rfl)) (pgs_cons (pg_name (i := 5) scHu.nd rfl (Or.inl rfl)) pgs_nil))))))
      (pss_cons (ps_set (i := 6) scHu.nd rfl (Or.inl rfl) (pe_op op_add (pv 3) (pv 5)))
      (pss_cons (ps_if (pt_cmpR op_ne (pe_op op_mod (pv 6) (pe_glob (v := .int 8) (by rfl) g1 r1)) pe_int (nomark _)) (pss_one (ps_ret pe_bl)) pss_nil)
      (pss_one (ps_ret (pe_callB (cr_any rfl) (by rfl) T.n_any PyProof.Rows.Boot.«any» (pa_cons (pe_lc (own := [("signs", 7)]) (g := gName 7) (tt := tYes) (by rfl) scHu.nd (pi_list (pe_call (ok_signs_in T) (hr.mono (by decide)) (by rfl) T.g_signs_in (T.F_signs_in).kp T.b_signs_in .nil pass0 (pa_cons (pv 0) (pa_cons (pe_tup (pa_cons (pv 2) (pa_cons (pv 6) (pa_cons (pv 4) (pa_cons pe_int pa_nil))))) pa_nil)))) (blkOk_by (by kernel_rfl)) (fun _ _ _ _ _ => pg_name (i := 7) scHu.nd rfl (Or.inl rfl)) (fun _ _ _ _ _ => pts_nil) (fun _ _ _ _ _ => pe_cmpR op_in_sign pe_str (pv 7) rfl)) pa_nil)))))))), ?_⟩
    obtain ⟨ua, rfl, su⟩ := id hb
    have kk : ∀ {v : V} {H' : Hp}, v = V.bl (G.stp b 0 1) → Same H H' → Q v H' := fun e s => by rw [e]; exact k _ s
    refine ⟨_, rfl, _, rfl, .ref ua, b, 0, 1, rfl, hb, fun p H1 s1 hp => ⟨v, .ref p, G, b.mv 0 1, rfl, lv.tf (same_tf s1), o, ⟨p, rfl, SqT.of hp⟩, lim2, fun H2 s2 => ?_⟩⟩
    have S2 := s1.trans s2
    have su2 := (same_tf S2).sq su
    cases e : G.fr (b.mv 0 1) with
    | false => exact ⟨false, rfl, iteT (kk (by rw [Gm.stp, e]; rfl) S2)⟩
    | true =>
      obtain ⟨x0, y0, xw⟩ := fr_true lim2 e
      have x0 : 0 ≤ b.x := by have : 0 ≤ b.x + 0 := x0; omega
      have y0 : 0 ≤ b.y + 1 := y0
      have xw : b.x + b.w ≤ G.wi := by have : b.x + 0 + b.w ≤ G.wi := xw; omega
      have e2 : G.stp b 0 1 = (decide ((b.y + b.h) % 8 = 0) && (G.sgs ⟨b.x, b.y + b.h, b.w, 1⟩).any fun c => decide (c = 61)) := by rw [Gm.stp, e]; rfl
      refine ⟨true, rfl, iteF ?_⟩
      refine ⟨_, rfl, ua, _, rfl, su2, rfl, _, _, rfl, _, _, rfl, _, _, rfl, _, _, rfl, rfl, ?_⟩
      refine ⟨_, rfl, _, rfl, _, _, rfl, rfl, ?_⟩
      refine ⟨_, rfl, _, _, rfl, rfl, (show (0 : Int) < 8 by decide), rfl, _, rfl, ite2 (fun z => ?_) (fun z => ?_)⟩
      · refine kk ?_ S2
        have hz : ¬ (b.y + b.h) % 8 = 0 := fun q => by
          have z : (!decide (V.int ((b.y + b.h) % 8) = V.int 0)) = true := z
          rw [q] at z
          exact absurd z (by decide)
        rw [e2, decide_eq_false hz]
        rfl
      have h8 : (b.y + b.h) % 8 = 0 := Classical.byContradiction fun q => z (by
        show (!decide (V.int ((b.y + b.h) % 8) = V.int 0)) = true
        rw [decide_eq_false (fun p => q (by injection p))]; rfl)
      obtain ⟨l1, l2, l3, l4, l5, l6, l7, l8⟩ := id lim
      have lim3 : (Bx.mk b.x (b.y + b.h) b.w 1).lim := ⟨l1, l2, show -100000 ≤ b.y + b.h by omega, yh, l5, l6, show (1 : Int) ≤ 1 by decide, show (1 : Int) ≤ 100 by decide⟩
      refine ⟨_, rfl, _, rfl, _, rfl, _, rfl, (show 4 ≤ sizeLine by decide), fun p3 np3 => ?_⟩
      have s3 := new_same (o := .tup (Bx.mk b.x (b.y + b.h) b.w 1).vs) np3
      have sp3 : SqT K (upd H2 p3 (.tup (Bx.mk b.x (b.y + b.h) b.w 1).vs)) p3 (Bx.mk b.x (b.y + b.h) b.w 1).vs := SqT.of upd_same
      refine ⟨v, .ref p3, G, _, rfl, lv.tf (same_tf (S2.trans s3)), o, ⟨p3, rfl, sp3⟩, lim3, fun p4 H4 s4 hp4 => ?_⟩
      obtain ⟨ss, hss⟩ : ∃ ss, ss = G.ins ⟨b.x, b.y + b.h, b.w, 1⟩ := ⟨_, rfl⟩
      have ssl : ss.length ≤ 20 := by
        rw [hss, Gm.ins, List.length_map, cutL, List.length_take, List.length_drop]
        have := o.r2
        omega
      rw [← hss] at hp4
      refine ⟨p4, rfl, ⟨_, SqL.of hp4⟩, fun D hD => ?_⟩
      refine lc_it (walk_list (K := K) (a := p4) (xs := ss.map V.str)) (fun i H' => Acc H4 D (fl ss (fun _ => true) (fun s => V.bl (decide (61 ∈ s.cps.toList))) i) H') (acc_0 hD) (fun i H' _ h => SqL.of (h.1 _ _ hp4)) (fun i v' H' Hx hi h yy => ?_) (fun H' h => ?_)
      · obtain ⟨rfl, hv⟩ := yy
        rw [List.length_map] at hi
        have hx := List.getElem?_eq_getElem hi
        rw [List.getElem?_map, hx] at hv
        cases hv
        refine ⟨rfl, ?_⟩
        dsimp only [tYes]
        rw [if_pos rfl]
        have e61 : V.str "=" = .str ⟨#[61]⟩ := by decide +kernel
        exact ⟨_, rfl, 61, _, e61, rfl, acc_yes (f := fun s => V.bl (decide (61 ∈ s.cps.toList))) hD h (Same.refl _) hx rfl (by omega)⟩
      · rw [List.length_map, fl_every] at h
        refine ⟨D, ss.map fun s => decide (61 ∈ s.cps.toList), rfl, SqL.of (by rw [h.2, List.map_map]; rfl), kk ?_ (((S2.trans s3).trans s4).trans h.1)⟩
        rw [e2, h8, ← ledge o lim3 x0 (show 0 ≤ b.y + b.h by omega) xw, ← hss, List.any_map]
        rfl
def dirs : List (Int × Int) := [(-1, 0), (1, 0), (0, -1), (0, 1)]
def spBar (K : PySem.W.Frag) : Sp := fun vs H Q _ => ∃ (v u : V) (G : Gm) (b : Bx) (dx dy : Int), vs = [v, u, .int dx, .int dy] ∧ (dx, dy) ∈ dirs ∧ LvAt K H v G ∧ G.ok ∧ BxAt K H u b ∧ b.lim ∧ (b.mv dx dy).lim ∧ b.y + b.h ≤ 100000 ∧ ∀ H', Same H H' → Q (.bl (G.stp b dx dy)) H'
theorem scBar : FnScope ["level", "box", "dx", "dy"] ["level", "box", "dx", "dy"] (defScope s_is_barred) := ⟨rfl, rfl, rfl, by decide +kernel, rfl, by decide +kernel, by decide +kernel⟩
theorem ok_is_barred (T : Txt K w mg) : FnOk P w K mg base CX0 4 (He.fAd K ("is_barred", none)) (fdAt K (He.fAd K ("is_barred", none))) ["level", "box", "dx", "dy"] (spBar K) := by
  refine T.F_is_barred.ok scBar (fun vs H Q E h => ?_) (fun cdv A outer s H vs Q E hr h => ?_)
  · obtain ⟨v, u, G, b, dx, dy, rfl, _⟩ := h
    rfl
  · obtain ⟨v, u, G, b, dx, dy, rfl, hd, lv, o, hb, lim, lim2, yh, k⟩ := h
    refine ⟨_, PSs.nox (pss_cons (ps_if (pt_cmpR op_gt (pv 3) pe_int (nomark _)) (pss_one (ps_ret (pe_call (ok_is_held_up T) (hr.mono (by first | decide | omega)) (by rfl) T.g_is_held_up (T.F_is_held_up).kp T.b_is_held_up .nil pass0 (pa_cons (pv 0) (pa_cons (pv 1) pa_nil))))) pss_nil)
      (pss_one (ps_ret (pe_not (pe_call (ok_is_clear T) (hr.mono (by first | decide | omega)) (by rfl) T.g_is_clear (T.F_is_clear).kp T.b_is_clear .nil pass0 (pa_cons (pv 0) (pa_cons (pe_call (ok_moved T) (hr.mono (by first | decide | omega)) (by rfl) T.g_moved (T.F_moved).kp T.b_moved .nil pass0 (pa_cons (pv 1) (pa_cons (pv 2) (pa_cons (pv 3) pa_nil)))) pa_nil))))))), ?_⟩
    refine ⟨_, rfl, _, _, rfl, rfl, _, rfl, ite2 (fun z => ?_) (fun z => ?_)⟩
    · have z := of_decide_eq_true z
      have e : dx = 0 ∧ dy = 1 := by
        simp only [dirs, List.mem_cons, List.not_mem_nil, or_false, Prod.mk.injEq] at hd
        omega
      obtain ⟨rfl, rfl⟩ := e
      exact ⟨_, rfl, _, rfl, v, u, G, b, rfl, lv, o, hb, lim, lim2, yh, k⟩
    · have z2 : ¬ dy = 1 := fun e => z (decide_eq_true (by omega))
      refine ⟨_, rfl, _, rfl, _, rfl, _, rfl, u, b, dx, dy, rfl, hb, fun p H1 s1 hp => ⟨v, .ref p, G, b.mv dx dy, rfl, lv.tf (same_tf s1), o, ⟨p, rfl, SqT.of hp⟩, lim2, fun H2 s2 => ?_⟩⟩
      have e : G.stp b dx dy = !G.fr (b.mv dx dy) := by
        rw [Gm.stp, decide_eq_false z2]
        simp
      rw [e] at k
      exact ⟨_, rfl, k H2 (s1.trans s2)⟩
end
end K22
set_option maxRecDepth 100000
set_option maxHeartbeats 4000000
/-! The buckets of a box. -/
namespace K22
open PySem PySem.Spec PyProof.Rows L2 KF KD KP
def mn (x y : Int) : Int := if x < y then x else y
def Gm.c0 (G : Gm) (b : Bx) : Int := mx0 b.x / 32
def Gm.c1 (G : Gm) (b : Bx) : Int := (mn (b.x + b.w) G.wi - 1) / 32 + 1
def Gm.r0 (G : Gm) (b : Bx) : Int := mx0 b.y / 32
def Gm.r1 (G : Gm) (b : Bx) : Int := (mn (b.y + b.h) G.hi - 1) / 32 + 1
def Gm.bkr (G : Gm) (b : Bx) (r : Int) : List Int := (rngI (G.c0 b) (G.c1 b)).map fun c => 49 + (G.bw * r + c)
/-- the cells of the buckets of a box -/
def Gm.blk (G : Gm) (b : Bx) : List Int := if meets b ⟨0, 0, G.wi, G.hi⟩ = true then (rngI (G.r0 b) (G.r1 b)).flatMap (G.bkr b) else []
theorem meets_iff (a b : Bx) : meets a b = true ↔ a.x < b.x + b.w ∧ b.x < a.x + a.w ∧ a.y < b.y + b.h ∧ b.y < a.y + a.h := by
  unfold meets
  rw [Bool.and_eq_true, Bool.and_eq_true, Bool.and_eq_true, decide_eq_true_eq, decide_eq_true_eq, decide_eq_true_eq, decide_eq_true_eq]
structure Blim (G : Gm) (b : Bx) : Prop where
  c : 0 ≤ G.c0 b ∧ G.c0 b ≤ G.c1 b ∧ G.c1 b ≤ 8 ∧ G.c1 b ≤ G.bw
  r : 0 ≤ G.r0 b ∧ G.r0 b ≤ G.r1 b ∧ G.r1 b ≤ 5 ∧ G.r1 b ≤ G.bh
theorem blim {G : Gm} {b : Bx} (o : G.ok) (l : b.lim) (m : meets b ⟨0, 0, G.wi, G.hi⟩ = true) : Blim G b := by
  obtain ⟨m1, m2, m3, m4⟩ := (meets_iff _ _).mp m
  obtain ⟨l1, l2, l3, l4, l5, l6, l7, l8⟩ := l
  have h1 : G.wi = 8 * (G.W : Int) := rfl
  have h2 : G.hi = 8 * (G.rows.length : Int) := rfl
  have h3 : G.bw = ((G.W : Int) + 3) / 4 := rfl
  have h4 : G.bh = ((G.rows.length : Int) + 3) / 4 := rfl
  have := o.w1
  have := o.w2
  have := o.r1
  have := o.r2
  dsimp only at m1 m2 m3 m4
  refine ⟨?_, ?_⟩
  · unfold Gm.c0 Gm.c1 mx0 mn
    split <;> split <;> omega
  · unfold Gm.r0 Gm.r1 mx0 mn
    split <;> split <;> omega
theorem bkr_len {G : Gm} {b : Bx} (l : Blim G b) (r : Int) : (G.bkr b r).length ≤ 8 := by
  rw [Gm.bkr, List.length_map, rngI_len]
  have := l.c
  omega
theorem flat_len8 {f : Int → List Int} (h : ∀ r, (f r).length ≤ 8) : ∀ l : List Int, (l.flatMap f).length ≤ 8 * l.length
  | [] => by simp
  | x :: l => by
    rw [List.flatMap_cons, List.length_append, List.length_cons]
    have := h x
    have := flat_len8 h l
    omega
theorem pre_len {G : Gm} {b : Bx} (l : Blim G b) (i : Nat) : (((rngI (G.r0 b) (G.r1 b)).take i).flatMap (G.bkr b)).length ≤ 40 := by
  have h := flat_len8 (bkr_len l) ((rngI (G.r0 b) (G.r1 b)).take i)
  rw [List.length_take, rngI_len] at h
  have := l.r
  omega
theorem blk_len {G : Gm} {b : Bx} (o : G.ok) (l : b.lim) : (G.blk b).length ≤ 40 := by
  unfold Gm.blk
  split
  · rename_i m
    have h := pre_len (blim o l m) ((G.r1 b) - (G.r0 b)).toNat
    rwa [rngI_all] at h
  · exact Nat.zero_le _
theorem blk_mem {G : Gm} {b : Bx} (o : G.ok) (l : b.lim) {c : Int} (h : c ∈ G.blk b) : 49 ≤ c ∧ c < 49 + G.bh * G.bw := by
  unfold Gm.blk at h
  split at h
  · rename_i m
    have bl := blim o l m
    obtain ⟨r, hr, hc⟩ := List.mem_flatMap.mp h
    have hr := rngI_mem.mp hr
    rw [Gm.bkr, List.mem_map] at hc
    obtain ⟨k, hk, rfl⟩ := hc
    have hk := rngI_mem.mp hk
    have h1 := bl.c
    have h2 := bl.r
    have e1 : 0 ≤ G.bw * r := Int.mul_nonneg (by omega) (by omega)
    have e2 : G.bw * r + G.bw ≤ G.bh * G.bw := by
      have : G.bw * (r + 1) ≤ G.bw * G.bh := Int.mul_le_mul_of_nonneg_left (by omega) (by omega)
      rw [Int.mul_add, Int.mul_one] at this
      rw [Int.mul_comm G.bh]
      exact this
    omega
  · cases h
section
variable {P : Program} {w : World} {K : PySem.W.Frag} {mg : Str → Option Value} {base : Heap}
def spBlk (K : PySem.W.Frag) : Sp := fun vs H Q _ => ∃ (g u : V) (G : Gm) (b : Bx), vs = [g, u] ∧ GmAt K H g G ∧ G.ok ∧ BxAt K H u b ∧ b.lim ∧ ∀ p H', Same H H' → H' p = some (.lst ((G.blk b).map V.int)) → H p = none → Q (.ref p) H'
theorem scBk : FnScope ["game", "box", "wide", "high", "many", "found", "row", "column"] ["game", "box"] (defScope s_law_blocks) := ⟨rfl, rfl, rfl, by decide +kernel, rfl, by decide +kernel, by decide +kernel⟩
theorem ok_law_blocks (T : Txt K w mg) : FnOk P w K mg base CX0 2 (He.fAd K ("_law_blocks", none)) (fdAt K (He.fAd K ("_law_blocks", none))) ["game", "box"] (spBlk K) := by
  refine T.F_law_blocks.ok scBk (fun vs H Q E h => ?_) (fun cdv A outer s H vs Q E hr h => ?_)
  · obtain ⟨g, u, G, b, rfl, _⟩ := h
    rfl
  · obtain ⟨g, u, G, b, rfl, hg, o, hb, lim, k⟩ := h
    refine ⟨_, PSs.nox (pss_cons (ps_asg (pe_call (ok_law_size T) (hr.mono (by first | decide | omega)) (by rfl) T.g_law_size (T.F_law_size).kp T.b_law_size .nil pass0 (pa_cons (pv 0) pa_nil)) (pg_tup (by rfl) (pgs_cons (pg_name (i := 2) scBk.nd rfl (Or.inl rfl)) (pgs_cons (pg_name (i := 3) scBk.nd rfl (Or.inl rfl)) pgs_nil))))
      (pss_cons (ps_if (pt_not (pt_val (pe_call (ok_law_meet T) (hr.mono (by first | decide | omega)) (by rfl) T.g_law_meet (T.F_law_meet).kp T.b_law_meet .nil pass0 (pa_cons (pv 1) (pa_cons (pe_tup (pa_cons pe_int (pa_cons pe_int (pa_cons (pv 2) (pa_cons (pv 3) pa_nil))))) pa_nil))))) (pss_one (ps_ret (pe_lst pa_nil))) pss_nil)
      (pss_cons (ps_set (i := 4) scBk.nd rfl (Or.inl rfl) (pe_op op_fdivW (pe_op op_add (pv 2) pe_int) pe_int))
      (pss_cons (ps_set (i := 5) scBk.nd rfl (Or.inl rfl) (pe_lst pa_nil))
      (pss_cons (ps_for PassesOwn.never rfl (pi_range2 (by rfl) T.n_range (pa_cons (pe_op op_fdivW (pe_callB (call_max2 rfl) (by rfl) T.n_max PyProof.Rows.Boot.«max» (pa_cons (pe_ix (r := rIxT K) ix_tup (pv 1) pe_int (fun _ _ => rfl)) (pa_cons pe_int pa_nil))) pe_int) (pa_cons (pe_op op_add (pe_op op_fdivW (pe_op op_sub (pe_callB (call_min2 rfl) (by rfl) T.n_min PyProof.Rows.Boot.«min» (pa_cons (pe_op op_add (pe_ix (r := rIxT K) ix_tup (pv 1) pe_int (fun _ _ => rfl)) (pe_ix (r := rIxT K) ix_tup (pv 1) pe_int (fun _ _ => rfl))) (pa_cons (pv 3) pa_nil))) pe_int) pe_int) pe_int) pa_nil))) (pg_name (i := 6) scBk.nd rfl (Or.inl rfl)) (pss_one (ps_for PassesOwn.never rfl (pi_range2 (by rfl) T.n_range (pa_cons (pe_op op_fdivW (pe_callB (call_max2 rfl) (by rfl) T.n_max PyProof.Rows.Boot.«max» (pa_cons (pe_ix (r := rIxT K) ix_tup (pv 1) pe_int (fun _ _ => rfl)) (pa_cons pe_int pa_nil))) pe_int) (pa_cons (pe_op op_add (pe_op op_fdivW (pe_op op_sub (pe_callB (call_min2 rfl) (by rfl) T.n_min PyProof.Rows.Boot.«min» (pa_cons (pe_op op_add (pe_ix (r := rIxT K) ix_tup (pv 1) pe_int (fun _ _ => rfl)) (pe_ix (r := rIxT K) ix_tup (pv 1) pe_int (fun _ _ => rfl))) (pa_cons (pv 2) pa_nil))) pe_int) pe_int) pe_int) pa_nil))) (pg_name (i := 7) scBk.nd rfl (Or.inl rfl)) (pss_one (ps_expr (pe_bm PySem.F.plainAttrs_list PySem.F.slot_list_append PySem.F.type_list_append mt_append (pv 5) (pa_cons (pe_op op_add (pe_op op_add pe_int (pe_op op_mulW (pv 4) (pv 6))) (pv 7)) pa_nil)))))))
      (pss_one (ps_ret (pv 5)))))))), ?_⟩
    obtain ⟨ua, rfl, su⟩ := id hb
    refine ⟨_, rfl, g, G, rfl, hg, o, fun p H1 s1 hp => ⟨p, _, rfl, SqT.of hp, rfl, _, _, rfl, _, _, rfl, rfl, ?_⟩⟩
    refine ⟨_, rfl, _, rfl, _, rfl, (show 4 ≤ sizeLine by decide), fun q nq => ?_⟩
    have s2 := new_same (o := .tup (Bx.mk 0 0 G.wi G.hi).vs) nq
    have sq : SqT K (upd H1 q (.tup (Bx.mk 0 0 G.wi G.hi).vs)) q (Bx.mk 0 0 G.wi G.hi).vs := SqT.of upd_same
    have S2 := s1.trans s2
    have kk : ∀ {l : List Int} (p : Addr) {H' : Hp}, G.blk b = l → Same H H' → H' p = some (.lst (l.map V.int)) → H p = none → Q (.ref p) H' := fun p H' e s h n => k p H' s (by rw [e]; exact h) n
    have nn : ∀ {p2 : Addr}, (upd H1 q (.tup (Bx.mk 0 0 G.wi G.hi).vs)) p2 = none → H p2 = none := fun {p2} np2 => by
      cases e : H p2 with
      | none => rfl
      | some z => exact absurd ((S2 _ _ e).symm.trans np2) (by simp)
    refine ⟨.ref ua, .ref q, b, _, rfl, hb.tf (same_tf S2), ⟨q, rfl, sq⟩, ?_⟩
    cases m : meets b ⟨0, 0, G.wi, G.hi⟩ with
    | false =>
      refine ⟨false, rfl, iteT ⟨(show 0 ≤ sizeLine by decide), fun p2 np2 => kk p2 (by rw [Gm.blk, if_neg (by rw [m]; decide)]) (S2.trans (new_same np2)) upd_same (nn np2)⟩⟩
    | true =>
      have bl := blim o lim m
      refine ⟨true, rfl, iteF ?_⟩
      have d32 : ∀ i : Int, CDivW i 32 := fun i => wide_div (b := 10) (by decide) (by decide) (by decide) (by decide)
      have p62 : (2 : Int) ^ 62 = 4611686018427387904 := by decide
      have emany : (G.wi + 31) / 32 = G.bw := by
        have h1 : G.wi = 8 * (G.W : Int) := rfl
        have h3 : G.bw = ((G.W : Int) + 3) / 4 := rfl
        omega
      refine ⟨_, rfl, _, _, rfl, rfl, _, _, rfl, rfl, d32 _, ?_⟩
      dsimp only [gName]
      rw [emany]
      have ex0 : (if (0 : Int) > b.x then 0 else b.x) = mx0 b.x := by unfold mx0; split <;> split <;> omega
      have ey0 : (if (0 : Int) > b.y then 0 else b.y) = mx0 b.y := by unfold mx0; split <;> split <;> omega
      have ex1 : (if G.wi < b.x + b.w then G.wi else b.x + b.w) = mn (b.x + b.w) G.wi := by unfold mn; split <;> split <;> omega
      have ey1 : (if G.hi < b.y + b.h then G.hi else b.y + b.h) = mn (b.y + b.h) G.hi := by unfold mn; split <;> split <;> omega
      refine ⟨(show 0 ≤ sizeLine by decide), fun p2 np2 => ?_⟩
      have s3 := new_same (o := .lst []) np2
      have S3 := S2.trans s3
      have su3 := (same_tf S3).sq su
      have nH : H p2 = none := by
        cases e : H p2 with
        | none => rfl
        | some z => exact absurd ((S2 _ _ e).symm.trans np2) (by simp)
      have blc := bl.c
      have blr := bl.r
      have bw0 : 1 ≤ G.bw := by have := o.w1; have h3 : G.bw = ((G.W : Int) + 3) / 4 := rfl; omega
      have bw8 : G.bw ≤ 8 := by have := o.w2; have h3 : G.bw = ((G.W : Int) + 3) / 4 := rfl; omega
      refine ⟨_, rfl, ua, _, _, _, rfl, rfl, su3, atI_nat (j := 1) rfl, _, _, rfl, _, _, rfl, rfl, d32 _, _, rfl, ua, _, _, _, rfl, rfl, su3, atI_nat (j := 1) rfl, _, rfl, ua, _, _, _, rfl, rfl, su3, atI_nat (j := 3) rfl, _, _, rfl, rfl, _, rfl, _, _, rfl, _, _, rfl, rfl, _, _, rfl, rfl, d32 _, _, _, rfl, rfl, G.r0 b, G.r1 b, (by rw [Gm.r0, Gm.r1, ← ey0, ← ey1]), (by rw [p62]; omega), ?_⟩
      have ebl : G.blk b = (rngI (G.r0 b) (G.r1 b)).flatMap (G.bkr b) := by rw [Gm.blk, if_pos m]
      refine for_range (lo := G.r0 b) (n := (G.r1 b - G.r0 b).toNat) (fun i σ H' => ∃ v6 v7 : Option V, σ = [some g, some (.ref ua), some (.int G.wi), some (.int G.hi), some (.int G.bw), some (.ref p2), v6, v7] ∧ H' p2 = some (.lst ((((rngI (G.r0 b) (G.r1 b)).take i).flatMap (G.bkr b)).map V.int)) ∧ Same H H') ⟨_, _, rfl, by rw [List.take_zero]; exact upd_same, S3⟩ (fun i σ H4 hi4 hPv => ?_) (fun σ H4 hPv => ?_)
      rotate_left
      · obtain ⟨v6, v7, rfl, hp4, sm⟩ := hPv
        rw [rngI_all] at hp4
        exact ⟨_, rfl, kk p2 ebl sm hp4 nH⟩
      obtain ⟨v6, v7, rfl, hp4, sm⟩ := hPv
      have su4 := (same_tf sm).sq su
      obtain ⟨pre, hpre⟩ : ∃ z, z = ((rngI (G.r0 b) (G.r1 b)).take i).flatMap (G.bkr b) := ⟨_, rfl⟩
      have hpl : pre.length ≤ 40 := by rw [hpre]; exact pre_len bl i
      rw [← hpre] at hp4
      refine ⟨_, rfl, ua, _, _, _, rfl, rfl, su4, atI_nat (j := 0) rfl, _, _, rfl, _, _, rfl, rfl, d32 _, _, rfl, ua, _, _, _, rfl, rfl, su4, atI_nat (j := 0) rfl, _, rfl, ua, _, _, _, rfl, rfl, su4, atI_nat (j := 2) rfl, _, _, rfl, rfl, _, rfl, _, _, rfl, _, _, rfl, rfl, _, _, rfl, rfl, d32 _, _, _, rfl, rfl, G.c0 b, G.c1 b, (by rw [Gm.c0, Gm.c1, ← ex0, ← ex1]), (by rw [p62]; omega), ?_⟩
      refine for_range (lo := G.c0 b) (n := (G.c1 b - G.c0 b).toNat) (fun j σ H' => ∃ v7 : Option V, σ = [some g, some (.ref ua), some (.int G.wi), some (.int G.hi), some (.int G.bw), some (.ref p2), some (.int (G.r0 b + (i : Int))), v7] ∧ H' p2 = some (.lst ((pre ++ ((rngI (G.c0 b) (G.c1 b)).take j).map fun c => 49 + (G.bw * (G.r0 b + (i : Int)) + c)).map V.int)) ∧ Same H H') ⟨_, rfl, by rw [List.take_zero, List.map_nil, List.append_nil]; exact hp4, sm⟩ (fun j σ H5 hj hPv => ?_) (fun σ H5 hPv => ?_)
      rotate_left
      · obtain ⟨v7, rfl, hp5, sm5⟩ := hPv
        refine ⟨_, _, rfl, ?_, sm5⟩
        rw [hp5, rngI_all, rngI_take hi4, List.flatMap_append, ← hpre]
        simp [Gm.bkr]
      obtain ⟨v7, rfl, hp5, sm5⟩ := hPv
      have mw : CMulW G.bw (G.r0 b + (i : Int)) := wide_mul (a := 40) (b := 40) (small_ab (by omega) (by rw [pow40]; omega)) (small_ab (by omega) (by rw [pow40]; omega)) (by decide) (by decide) (by decide)
      refine ⟨_, rfl, .inl ⟨rfl, _, SqL.of hp5⟩, _, rfl, _, rfl, _, _, rfl, rfl, mw, _, _, rfl, rfl, _, rfl, _, _, rfl, rfl, p2, _, _, rfl, rfl, hp5, ?_, _, rfl, ?_, fun c ob z => ?_⟩
      · rw [List.length_map, List.length_append, List.length_map, List.length_take, rngI_len]
        exact Nat.lt_of_lt_of_le (show _ < 1000 by omega) (by decide)
      · rw [upd_same, rngI_take hj, List.map_append, List.map_append, List.map_append, List.map_append, List.append_assoc]
        simp [Int.add_assoc]
      · rw [upd_ne (ne_of_none z nH)]
        exact sm5 _ _ z
def spBks (K : PySem.W.Frag) : Sp := fun vs H Q _ => ∃ (g u : V) (G : Gm) (b : Bx), vs = [g, u] ∧ GmAt K H g G ∧ G.ok ∧ BxAt K H u b ∧ b.lim ∧ ∀ p H', Same H H' → SqT K H' p ((G.blk b).map V.int) → Q (.ref p) H'
theorem scBo : FnScope ["game", "box", "level", "floor_wide", "floor_high", "x", "y", "wide", "high", "left", "right", "top", "bottom", "many", "rows", "columns", "row", "column"] ["game", "box"] (defScope s_buckets_of) := ⟨rfl, rfl, rfl, by decide +kernel, rfl, by decide +kernel, by decide +kernel⟩
theorem ok_buckets_of (T : Txt K w mg) : FnOk P w K mg base CX0 2 (He.fAd K ("buckets_of", none)) (fdAt K (He.fAd K ("buckets_of", none))) ["game", "box"] (spBks K) := by
  obtain ⟨u1, g1, r1⟩ := T.c_BLOCK
  obtain ⟨u2, g2, r2⟩ := T.c_BUCKET
  refine T.F_buckets_of.ok scBo (fun vs H Q E h => ?_) (fun cdv A outer s H vs Q E hr h => ?_)
  · obtain ⟨g, u, G, b, rfl, _⟩ := h
    rfl
  · obtain ⟨g, u, G, b, rfl, hg, o, hb, lim, k⟩ := h
    refine ⟨_, PSs.nox (pss_cons (ps_set (i := 2) scBo.nd rfl (Or.inl rfl) (pe_ix (r := rIxT K) ix_tup (pv 0) pe_int (fun _ _ => rfl)))
      (pss_cons (ps_asg (pe_call (ok_extent T) (hr.mono (by first | decide | omega)) (by rfl) T.g_extent (T.F_extent).kp T.b_extent .nil pass0 (pa_cons (pv 2) pa_nil)) (pg_tup (by rfl) (pgs_cons (pg_name (i := 3) scBo.nd rfl (Or.inl rfl)) (pgs_cons (pg_name (i := 4) scBo.nd rfl (Or.inl rfl)) pgs_nil))))
      (pss_cons (ps_asg (pv 1) (pg_tup (by rfl) (pgs_cons (pg_name (i := 5) scBo.nd rfl (Or.inl rfl)) (pgs_cons (pg_name (i := 6) scBo.nd rfl (Or.inl rfl)) (pgs_cons (pg_name (i := 7) scBo.nd rfl (Or.inl rfl)) (pgs_cons (pg_name (i := 8) scBo.nd rfl (Or.inl rfl)) pgs_nil))))))
      (pss_cons (ps_set (i := 9) scBo.nd rfl (Or.inl rfl) (pe_callB (call_max2 rfl) (by rfl) T.n_max PyProof.Rows.Boot.«max» (pa_cons pe_int (pa_cons (pv 5) pa_nil))))
      (pss_cons (ps_set (i := 10) scBo.nd rfl (Or.inl rfl) (pe_callB (call_min2 rfl) (by rfl) T.n_min PyProof.Rows.Boot.«min» (pa_cons (pv 3) (pa_cons (pe_op op_add (pv 5) (pv 7)) pa_nil))))
      (pss_cons (ps_set (i := 11) scBo.nd rfl (Or.inl rfl) (pe_callB (call_max2 rfl) (by rfl) T.n_max PyProof.Rows.Boot.«max» (pa_cons pe_int (pa_cons (pv 6) pa_nil))))
      (pss_cons (ps_set (i := 12) scBo.nd rfl (Or.inl rfl) (pe_callB (call_min2 rfl) (by rfl) T.n_min PyProof.Rows.Boot.«min» (pa_cons (pv 4) (pa_cons (pe_op op_add (pv 6) (pv 8)) pa_nil))))
      (pss_cons (ps_if (PW.pt (pw_or (pt_cmpR op_ge (pv 9) (pv 10) (nomark _)) (pw_or1 (pt_cmpR op_ge (pv 11) (pv 12) (nomark _))))) (pss_one (ps_ret (pe_tup pa_nil))) pss_nil)
      (pss_cons (ps_set (i := 13) scBo.nd rfl (Or.inr rfl) (pe_ix (r := rIxT K) ix_tup (pe_call (ok_block_counts T) (hr.mono (by first | decide | omega)) (by rfl) T.g_block_counts (T.F_block_counts).kp T.b_block_counts .nil pass0 (pa_cons (pv 2) pa_nil)) pe_int (fun _ _ => rfl)))
      (pss_cons (ps_set (i := 14) scBo.nd rfl (Or.inl rfl) (pe_callTy cr_range2 (by rfl) T.n_range PyProof.Rows.Boot.«range» (pa_cons (pe_op op_fdivW (pv 11) (pe_glob (v := .int 32) (by rfl) g1 r1)) (pa_cons (pe_op op_add (pe_op op_fdivW (pe_op op_sub (pv 12) pe_int) (pe_glob (v := .int 32) (by rfl) g1 r1)) pe_int) pa_nil))))
      (pss_cons (ps_set (i := 15) scBo.nd rfl (Or.inr rfl) (pe_callTy cr_range2 (by rfl) T.n_range PyProof.Rows.Boot.«range» (pa_cons (pe_op op_fdivW (pv 9) (pe_glob (v := .int 32) (by rfl) g1 r1)) (pa_cons (pe_op op_add (pe_op op_fdivW (pe_op op_sub (pv 10) pe_int) (pe_glob (v := .int 32) (by rfl) g1 r1)) pe_int) pa_nil))))
      (pss_one (ps_ret (pe_callTy call_tuple_of (by rfl) T.n_tuple PyProof.Rows.Boot.«tuple» (pa_cons (pe_lc2 (own := [("row", 16), ("column", 17)]) (vs1 := [17]) (g := gName 16) (tt := tYes) (g1 := gName 17) (tt1 := tYes) (by rfl) scBo.nd (KU.pi_rngV (pv 14)) (blkOk_by (by kernel_rfl)) (by decide) (fun _ _ _ _ _ => pg_name (i := 16) scBo.nd rfl (Or.inl rfl)) (fun _ _ _ _ _ => pts_nil) (fun _ _ _ _ _ => KU.pi_rngV (pv 15)) (fun _ _ _ _ _ => pg_name (i := 17) scBo.nd rfl (Or.inl rfl)) (fun _ _ _ _ _ => pts_nil) (fun _ _ _ _ _ => pe_op op_add (pe_op op_add (pe_glob (v := .int 49) (by rfl) g2 r2) (pe_op op_mulW (pv 16) (pv 13))) (pv 17))) pa_nil))))))))))))))), ?_⟩
    have d32 : ∀ i : Int, CDivW i 32 := fun i => wide_div (b := 10) (by decide) (by decide) (by decide) (by decide)
    have p62 : (2 : Int) ^ 62 = 4611686018427387904 := by decide
    obtain ⟨ga, lv, ks, rfl, sg, hl, _⟩ := id hg
    obtain ⟨ua, rfl, su⟩ := id hb
    refine ⟨_, rfl, ga, _, _, _, rfl, rfl, sg, atI_nat (j := 0) rfl, _, rfl, lv, G, rfl, hl, o, fun p H1 s1 hp => ⟨p, _, rfl, SqT.of hp, rfl, _, _, rfl, _, _, rfl, rfl, ?_⟩⟩
    refine ⟨_, rfl, ua, _, rfl, (same_tf s1).sq su, rfl, _, _, rfl, _, _, rfl, _, _, rfl, _, _, rfl, rfl, ?_⟩
    refine ⟨_, rfl, _, _, rfl, _, rfl, _, rfl, _, rfl, _, _, rfl, rfl, _, _, rfl, _, rfl, _, _, rfl, _, rfl, _, rfl, _, rfl, _, _, rfl, rfl, _, _, rfl, ?_⟩
    have ex1 : (if b.x + b.w < G.wi then b.x + b.w else G.wi) = mn (b.x + b.w) G.wi := rfl
    have ey1 : (if b.y + b.h < G.hi then b.y + b.h else G.hi) = mn (b.y + b.h) G.hi := rfl
    have ex0 : (if b.x > 0 then b.x else 0) = mx0 b.x := rfl
    have ey0 : (if b.y > 0 then b.y else 0) = mx0 b.y := rfl
    dsimp only [gName]
    rw [ex0, ex1, ey0, ey1]
    have h1 : G.wi = 8 * (G.W : Int) := rfl
    have h2 : G.hi = 8 * (G.rows.length : Int) := rfl
    have w1 := o.w1
    have r1' := o.r1
    obtain ⟨l1, l2, l3, l4, l5, l6, l7, l8⟩ := id lim
    have no : ¬ (meets b ⟨0, 0, G.wi, G.hi⟩ = true) → G.blk b = [] := fun z => by rw [Gm.blk, if_neg z]
    have emp : ¬ (meets b ⟨0, 0, G.wi, G.hi⟩ = true) → 0 ≤ sizeLine ∧ ∀ p, H1 p = none → Q (.ref p) (upd H1 p (.tup [])) := fun z => ⟨by decide, fun p2 np2 => k p2 _ (s1.trans (new_same np2)) (by rw [no z]; exact SqT.of upd_same)⟩
    refine ⟨_, rfl, _, rfl, _, _, rfl, rfl, _, rfl, ite2 (fun z => ?_) (fun z => ?_)⟩
    · have z := of_decide_eq_true z
      refine emp fun q => ?_
      obtain ⟨m1, m2, m3, m4⟩ := (meets_iff _ _).mp q
      dsimp only at m1 m2 m3 m4
      unfold mx0 mn at z
      split at z <;> split at z <;> omega
    have z1 : mx0 b.x < mn (b.x + b.w) G.wi := Int.not_le.mp fun q => z (decide_eq_true q)
    refine ⟨_, rfl, _, rfl, _, _, rfl, rfl, _, rfl, ite2 (fun z => ?_) (fun z => ?_)⟩
    · have z := of_decide_eq_true z
      refine emp fun q => ?_
      obtain ⟨m1, m2, m3, m4⟩ := (meets_iff _ _).mp q
      dsimp only at m1 m2 m3 m4
      unfold mx0 mn at z
      split at z <;> split at z <;> omega
    have z2 : mx0 b.y < mn (b.y + b.h) G.hi := Int.not_le.mp fun q => z (decide_eq_true q)
    have m : meets b ⟨0, 0, G.wi, G.hi⟩ = true := (meets_iff _ _).mpr (by
      dsimp only
      unfold mx0 mn at z1 z2
      refine ⟨?_, ?_, ?_, ?_⟩
      · split at z1 <;> split at z1 <;> omega
      · split at z1 <;> split at z1 <;> omega
      · split at z2 <;> split at z2 <;> omega
      · split at z2 <;> split at z2 <;> omega)
    have bl := blim o lim m
    have ebl : G.blk b = (rngI (G.r0 b) (G.r1 b)).flatMap (G.bkr b) := by rw [Gm.blk, if_pos m]
    have blc := bl.c
    have blr := bl.r
    have bw8 : G.bw ≤ 8 := by have := o.w2; have h3 : G.bw = ((G.W : Int) + 3) / 4 := rfl; omega
    have bw0 : 0 ≤ G.bw := by have h3 : G.bw = ((G.W : Int) + 3) / 4 := rfl; omega
    refine ⟨_, rfl, lv, G, rfl, hl.tf (same_tf s1), o, fun p2 H2 s2 hp2 => ⟨p2, _, _, _, rfl, rfl, SqT.of hp2, at1, ?_⟩⟩
    have S2 := s1.trans s2
    refine ⟨_, rfl, _, _, rfl, rfl, d32 _, _, rfl, _, _, rfl, rfl, _, _, rfl, rfl, d32 _, _, _, rfl, rfl, G.r0 b, G.r1 b, rfl, fun ra nra => ?_⟩
    have s3 := new_same (o := .rng (G.r0 b) (G.r1 b)) nra
    dsimp only [gName]
    refine seq_cut (fun σ' H' => ∃ ca : Addr, σ' = [some (.ref ga), some (.ref ua), some lv, some (.int G.wi), some (.int G.hi), some (.int b.x), some (.int b.y), some (.int b.w), some (.int b.h), some (.int (mx0 b.x)), some (.int (mn (b.x + b.w) G.wi)), some (.int (mx0 b.y)), some (.int (mn (b.y + b.h) G.hi)), some (.int G.bw), some (.ref ra), some (.ref ca), none, none] ∧ H' ra = some (.rng (G.r0 b) (G.r1 b)) ∧ H' ca = some (.rng (G.c0 b) (G.c1 b)) ∧ Same H H') (fun σ' H4 hP => ?_) (fun R hR => ?_)
    rotate_left
    · refine ⟨_, rfl, _, _, rfl, rfl, d32 _, _, rfl, _, _, rfl, rfl, _, _, rfl, rfl, d32 _, _, _, rfl, rfl, G.c0 b, G.c1 b, rfl, fun ca nca => ?_⟩
      have s4 := new_same (o := .rng (G.c0 b) (G.c1 b)) nca
      exact hR _ _ ⟨ca, rfl, s4 _ _ upd_same, upd_same, (S2.trans s3).trans s4⟩
    obtain ⟨ca, rfl, hra, hca, S4⟩ := hP
    refine ⟨_, rfl, ra, G.r0 b, G.r1 b, rfl, hra, (by rw [p62]; omega), fun D hD => ?_⟩
    refine KU.lc_out (walk_range (lo := G.r0 b) (n := (G.r1 b - G.r0 b).toNat)) (fun i H' => Acc H4 D ((((rngI (G.r0 b) (G.r1 b)).take i).flatMap (G.bkr b)).map V.int) H') ⟨new_same hD, by rw [List.take_zero]; exact upd_same⟩ (fun _ _ _ _ => trivial) (fun i x Ha Hb hi hPv hy => ?_) (fun Ha hPv => ?_)
    rotate_left
    · rw [rngI_all, ← ebl] at hPv
      have hl40 := blk_len o lim
      refine ⟨D, _, rfl, .inl ⟨SqL.of hPv.2, fun p5 np5 => k p5 _ ((S4.trans hPv.1).trans (new_same np5)) (SqT.of upd_same)⟩⟩
    obtain ⟨rfl, rfl⟩ := hy
    refine ⟨rfl, ?_⟩
    dsimp only [tYes]
    rw [if_pos rfl]
    obtain ⟨pre, hpre⟩ : ∃ z, z = ((rngI (G.r0 b) (G.r1 b)).take i).flatMap (G.bkr b) := ⟨_, rfl⟩
    have hpl : pre.length ≤ 40 := by rw [hpre]; exact pre_len bl i
    rw [← hpre] at hPv
    refine ⟨_, rfl, ca, G.c0 b, G.c1 b, rfl, hPv.1 _ _ hca, (by rw [p62]; omega), ?_⟩
    refine KU.lc_out (walk_range (lo := G.c0 b) (n := (G.c1 b - G.c0 b).toNat)) (fun j H' => Acc H4 D ((pre ++ ((rngI (G.c0 b) (G.c1 b)).take j).map fun c => 49 + (G.bw * (G.r0 b + (i : Int)) + c)).map V.int) H') (by rw [List.take_zero, List.map_nil, List.append_nil]; exact hPv) (fun _ _ _ _ => trivial) (fun j x Hc Hd hj hPv2 hy => ?_) (fun Hc hPv2 => ?_)
    rotate_left
    · rw [rngI_all] at hPv2
      rw [rngI_take hi, List.flatMap_append, ← hpre]
      simpa [Gm.bkr] using hPv2
    obtain ⟨rfl, rfl⟩ := hy
    refine ⟨rfl, ?_⟩
    dsimp only [tYes]
    rw [if_pos rfl]
    have mw : CMulW (G.r0 b + (i : Int)) G.bw := wide_mul (a := 40) (b := 40) (small_ab (by omega) (by rw [pow40]; omega)) (small_ab (by omega) (by rw [pow40]; omega)) (by decide) (by decide) (by decide)
    refine ⟨_, rfl, _, rfl, _, _, rfl, rfl, mw, _, _, rfl, rfl, _, rfl, _, _, rfl, rfl, _, hPv2.2, ?_, fun c ob z => ?_, ?_⟩
    · rw [List.length_map, List.length_append, List.length_map, List.length_take, rngI_len]
      exact Nat.lt_of_lt_of_le (show _ < 1000 by omega) (by decide)
    · rw [upd_ne (ne_of_none z hD)]
      exact hPv2.1 _ _ z
    · rw [upd_same, rngI_take hj, List.map_append, List.map_append, List.map_append, List.map_append, List.append_assoc]
      simp [Int.add_assoc, Int.mul_comm]
end
end K22
set_option maxRecDepth 100000
set_option maxHeartbeats 4000000
/-! Sets of cells. -/
namespace K22
open PySem PySem.Spec PyProof.Rows L2 KF KD KP
theorem srt_uniq : ∀ (xs ys : List Int), xs.Pairwise (· < ·) → ys.Pairwise (· < ·) → (∀ c, c ∈ xs ↔ c ∈ ys) → xs = ys
  | [], [], _, _, _ => rfl
  | [], y :: ys, _, _, h => absurd ((h y).mpr List.mem_cons_self) List.not_mem_nil
  | x :: xs, [], _, _, h => absurd ((h x).mp List.mem_cons_self) List.not_mem_nil
  | x :: xs, y :: ys, p, q, h => by
    obtain ⟨p1, p2⟩ := List.pairwise_cons.mp p
    obtain ⟨q1, q2⟩ := List.pairwise_cons.mp q
    have e : x = y := by
      rcases List.mem_cons.mp ((h x).mp List.mem_cons_self) with e | hx
      · exact e
      · rcases List.mem_cons.mp ((h y).mpr List.mem_cons_self) with e | hy
        · exact e.symm
        · have := q1 x hx
          have := p1 y hy
          omega
    subst e
    congr 1
    refine srt_uniq xs ys p2 q2 fun c => ⟨fun hc => ?_, fun hc => ?_⟩
    · rcases List.mem_cons.mp ((h c).mp (List.mem_cons_of_mem _ hc)) with e | z
      · have := p1 c hc
        omega
      · exact z
    · rcases List.mem_cons.mp ((h c).mpr (List.mem_cons_of_mem _ hc)) with e | z
      · have := q1 c hc
        omega
      · exact z
theorem lt_of {ys : List Int} (h : ys.Pairwise (· ≤ ·)) (nd : ys.Nodup) : ys.Pairwise (· < ·) := by
  induction ys with
  | nil => exact .nil
  | cons y ys ih =>
    obtain ⟨h1, h2⟩ := List.pairwise_cons.mp h
    obtain ⟨n1, n2⟩ := List.nodup_cons.mp nd
    refine List.pairwise_cons.mpr ⟨fun z hz => ?_, ih h2 n2⟩
    have := h1 z hz
    have : y ≠ z := fun e => n1 (by rw [e]; exact hz)
    omega
theorem range_lt (n : Nat) (p : Nat → Bool) : (((List.range n).filter p).map fun i : Nat => (i : Int)).Pairwise (· < ·) := by
  rw [List.pairwise_map]
  exact (List.Pairwise.filter _ (List.pairwise_lt_range (n := n))).imp fun h => by omega
/-- a cell of a slot or of a bucket -/
def Cel (c : Int) : Prop := (0 ≤ c ∧ c < 16) ∨ (49 ≤ c ∧ c < 89)
def celL : List Int := (rngI 0 16) ++ (rngI 49 89)
theorem celL_mem {c : Int} : c ∈ celL ↔ Cel c := by
  rw [celL, List.mem_append, rngI_mem, rngI_mem]
  exact Iff.rfl
theorem nd_len : ∀ (ks L : List Int), ks.Nodup → (∀ c ∈ ks, c ∈ L) → ks.length ≤ L.length
  | [], _, _, _ => Nat.zero_le _
  | c :: ks, L, nd, h => by
    obtain ⟨n1, n2⟩ := List.nodup_cons.mp nd
    have hc := h c List.mem_cons_self
    have h1 := nd_len ks (L.erase c) n2 fun x hx => (List.mem_erase_of_ne (fun e => n1 (by rw [← e]; exact hx))).mpr (h x (List.mem_cons_of_mem _ hx))
    rw [List.length_erase_of_mem hc] at h1
    have := List.length_pos_of_mem hc
    rw [List.length_cons]
    omega
theorem cel_len {ks : List Int} (nd : ks.Nodup) (h : ∀ c ∈ ks, Cel c) : ks.length ≤ 56 := by
  have h2 := nd_len ks celL nd fun c hc => celL_mem.mpr (h c hc)
  have : celL.length = 56 := by decide
  omega
/-- a dict whose keys are the cells of which P holds -/
def KSet (H : Hp) (d : Addr) (p : Int → Prop) : Prop := ∃ (kvs : List (Key × V)) (ks : List Int), H d = some (.dK kvs) ∧ kvs.map (·.1) = ks.map Sum.inl ∧ ks.Nodup ∧ (∀ c, c ∈ ks ↔ p c) ∧ ∀ c ∈ ks, Cel c
theorem KSet.imp {H : Hp} {d : Addr} {p q : Int → Prop} (h : KSet H d p) (e : ∀ c, p c ↔ q c) : KSet H d q := by
  obtain ⟨kvs, ks, h1, h2, h3, h4, h5⟩ := h
  exact ⟨kvs, ks, h1, h2, h3, fun c => (h4 c).trans (e c), h5⟩
theorem KSet.keep {H H' : Hp} {d : Addr} {p : Int → Prop} (h : KSet H d p) (e : H' d = H d) : KSet H' d p := by
  obtain ⟨kvs, ks, h1, h2⟩ := h
  exact ⟨kvs, ks, by rw [e]; exact h1, h2⟩
theorem KSet.same {H H' : Hp} {d : Addr} {p : Int → Prop} (h : KSet H d p) (e : Same H H') : KSet H' d p := by
  obtain ⟨kvs, ks, h1, h2⟩ := h
  exact ⟨kvs, ks, e _ _ h1, h2⟩
theorem KSet.frm {H H' : Hp} {d x : Addr} {p : Int → Prop} (h : KSet H d p) (e : Frm x H H') (n : d ≠ x) : KSet H' d p := by
  obtain ⟨kvs, ks, h1, h2⟩ := h
  exact ⟨kvs, ks, e _ _ n h1, h2⟩
theorem kset_nil {H : Hp} {d : Addr} (h : H d = some (.dK [])) : KSet H d fun _ => False := ⟨[], [], h, rfl, List.nodup_nil, fun _ => ⟨fun h => (List.not_mem_nil h).elim, fun h => h.elim⟩, fun _ h => (List.not_mem_nil h).elim⟩
theorem KSet.dict {H : Hp} {d : Addr} {p : Int → Prop} (h : KSet H d p) : ∃ kvs, H d = some (.dK kvs) := by
  obtain ⟨kvs, _, h1, _⟩ := h
  exact ⟨kvs, h1⟩
theorem kset_put {H : Hp} {d : Addr} {p : Int → Prop} {kvs : List (Key × V)} {c : Int} {v : V} (h : KSet H d p) (hd : H d = some (.dK kvs)) (hc : Cel c) : KSet (upd H d (.dK (putK kvs (.inl c) v))) d fun x => p x ∨ x = c := by
  obtain ⟨kvs', ks, h1, h2, h3, h4, h5⟩ := h
  have e : kvs' = kvs := by rw [h1] at hd; injection hd with hd; injection hd
  subst e
  have hany : (kvs'.any fun kv => decide (kv.1 = (.inl c : Key))) = decide (c ∈ ks) := by
    have g : (kvs'.any fun kv => decide (kv.1 = (.inl c : Key))) = ((kvs'.map (·.1)).any fun k => decide (k = (.inl c : Key))) := by
      rw [List.any_map]
      rfl
    rw [g, h2, List.any_map, Bool.eq_iff_iff]
    simp
  by_cases hm : c ∈ ks
  · refine ⟨_, ks, upd_same, ?_, h3, fun x => ⟨fun hx => .inl ((h4 x).mp hx), fun hx => ?_⟩, h5⟩
    · rw [putK, hany, decide_eq_true hm, if_pos rfl, List.map_map, ← h2]
      refine List.map_congr_left fun kv _ => ?_
      show (if kv.1 = Sum.inl c then (kv.1, v) else kv).1 = kv.1
      split <;> rfl
    · rcases hx with hx | rfl
      · exact (h4 x).mpr hx
      · exact hm
  · refine ⟨_, ks ++ [c], upd_same, ?_, ?_, fun x => ?_, fun x hx => ?_⟩
    · rw [putK, hany, decide_eq_false hm, if_neg (by decide), List.map_append, h2, List.map_append]
      rfl
    · rw [List.nodup_append]
      refine ⟨h3, by simp, fun a ha b hb => ?_⟩
      have hb : b = c := by simpa using hb
      exact fun z => hm (by rw [← hb, ← z]; exact ha)
    · rw [List.mem_append, List.mem_singleton, h4]
    · rcases List.mem_append.mp hx with hx | hx
      · exact h5 x hx
      · rw [List.mem_singleton.mp hx]
        exact hc
theorem KSet.len {H : Hp} {d : Addr} {p : Int → Prop} {kvs : List (Key × V)} (h : KSet H d p) (hd : H d = some (.dK kvs)) : kvs.length ≤ 56 := by
  obtain ⟨kvs', ks, h1, h2, h3, h4, h5⟩ := h
  have e : kvs' = kvs := by rw [h1] at hd; injection hd with hd; injection hd
  subst e
  have h6 := congrArg List.length h2
  rw [List.length_map, List.length_map] at h6
  have := cel_len h3 h5
  omega
section
end
end K22
set_option maxRecDepth 100000
set_option maxHeartbeats 4000000
/-! Looks. -/
namespace K22
open PySem PySem.Spec PyProof.Rows L2 KF KD KP
def LkAt (K : PySem.W.Frag) (H : Hp) (a wt ld : Addr) (p : Int → Prop) : Prop := ∃ dx, H a = some (.ins (He.ga K "Looks") dx [("_world", .ref wt), ("_looked", .ref ld)]) ∧ KSet H ld p
theorem LkAt.imp {K : PySem.W.Frag} {H : Hp} {a wt ld : Addr} {p q : Int → Prop} (h : LkAt K H a wt ld p) (e : ∀ c, p c ↔ q c) : LkAt K H a wt ld q := by
  obtain ⟨dx, h1, h2⟩ := h
  exact ⟨dx, h1, h2.imp e⟩
theorem LkAt.same {K : PySem.W.Frag} {H H' : Hp} {a wt ld : Addr} {p : Int → Prop} (h : LkAt K H a wt ld p) (e : Same H H') : LkAt K H' a wt ld p := by
  obtain ⟨dx, h1, h2⟩ := h
  exact ⟨dx, e _ _ h1, h2.same e⟩
theorem LkAt.frm {K : PySem.W.Frag} {H H' : Hp} {a wt ld x : Addr} {p : Int → Prop} (h : LkAt K H a wt ld p) (e : Frm x H H') (n1 : a ≠ x) (n2 : ld ≠ x) : LkAt K H' a wt ld p := by
  obtain ⟨dx, h1, h2⟩ := h
  exact ⟨dx, e _ _ n1 h1, h2.frm e n2⟩
theorem Frm.tfk {d : Addr} {H H' : Hp} {kvs : List (Key × V)} (f : Frm d H H') (h : H d = some (.dK kvs)) : TF H H' := fun c ys z => by
  rcases z with z | ⟨u, z⟩
  · exact .inl (f c _ (fun q => by rw [q, h] at z; cases z) z)
  · exact .inr ⟨u, f c _ (fun q => by rw [q, h] at z; cases z) z⟩
theorem LkAt.tf {K : PySem.W.Frag} {H H' : Hp} {a wt ld : Addr} {p : Int → Prop} (h : LkAt K H a wt ld p) (f : Frm ld H H') : TF H H' := by
  obtain ⟨dx, h1, h2⟩ := h
  exact Frm.tfk f h2.dict.choose_spec
section
variable {P : Program} {w : World} {K : PySem.W.Frag} {mg : Str → Option Value} {base : Heap}
theorem nf' {b : Bool} (h : b = false) : ¬ b = true := by rw [h]; decide
def spWhole : Sp := fun vs H Q _ => ∃ n : Int, vs = [.int n] ∧ Q (.bl true) H
theorem scWh : FnScope ["told"] ["told"] (defScope s_is_whole) := ⟨rfl, rfl, rfl, by decide +kernel, rfl, by decide +kernel, by decide +kernel⟩
theorem ok_is_whole (T : Txt K w mg) : FnOk P w K mg base CX0 1 (He.fAd K ("is_whole", none)) (fdAt K (He.fAd K ("is_whole", none))) ["told"] spWhole := by
  refine T.F_is_whole.ok scWh (fun vs H Q E h => ?_) (fun cdv A outer s H vs Q E hr h => ?_)
  · obtain ⟨n, rfl, _⟩ := h
    rfl
  · obtain ⟨n, rfl, q⟩ := h
    refine ⟨_, PSs.nox (pss_one (ps_ret (pe_and (pe_callB (r := rIsi K) call_isi (by rfl) T.n_isinstance PyProof.Rows.Boot.«isinstance» (pa_cons (pv 0) (pa_cons (pe_bltn (v := .ty "int") (by rfl) T.n_int PyProof.Rows.Boot.«int» rfl) pa_nil))) (pe_one (pe_not (pe_callB (r := rIsi K) call_isi (by rfl) T.n_isinstance PyProof.Rows.Boot.«isinstance» (pa_cons (pv 0) (pa_cons (pe_bltn (v := .ty "bool") (by rfl) T.n_bool PyProof.Rows.Boot.«bool» rfl) pa_nil)))))))), ?_⟩
    refine ⟨_, rfl, _, _, _, _, _, rfl, .ty "int", .base (.int n), kit_ty (r := true) (by decide +kernel), _, rfl, iteT ?_⟩
    exact ⟨_, rfl, _, _, _, _, _, rfl, .ty "bool", .base (.int n), kit_ty (r := false) (by decide +kernel), _, rfl, q⟩
def spBetween : Sp := fun vs H Q _ => ∃ n lo hi : Int, vs = [.int n, .int lo, .int hi] ∧ lo ≤ n ∧ n ≤ hi ∧ Q (.bl true) H
theorem scBe : FnScope ["told", "low", "high"] ["told", "low", "high"] (defScope s_is_between) := ⟨rfl, rfl, rfl, by decide +kernel, rfl, by decide +kernel, by decide +kernel⟩
theorem ok_is_between (T : Txt K w mg) : FnOk P w K mg base CX0 2 (He.fAd K ("is_between", none)) (fdAt K (He.fAd K ("is_between", none))) ["told", "low", "high"] spBetween := by
  refine T.F_is_between.ok scBe (fun vs H Q E h => ?_) (fun cdv A outer s H vs Q E hr h => ?_)
  · obtain ⟨n, lo, hi, rfl, _⟩ := h
    rfl
  · obtain ⟨n, lo, hi, rfl, h1, h2, q⟩ := h
    refine ⟨_, PSs.nox (pss_one (ps_ret (pe_and (pe_call (ok_is_whole T) (hr.mono (by first | decide | omega)) (by rfl) T.g_is_whole (T.F_is_whole).kp T.b_is_whole .nil pass0 (pa_cons (pv 0) pa_nil)) (pe_one (pe_chain op_le op_le (pv 1) (pv 0) (pv 2)))))), ?_⟩
    refine ⟨_, rfl, n, rfl, _, rfl, iteT ?_⟩
    refine ⟨_, rfl, _, rfl, _, _, rfl, rfl, _, rfl, ite2 (fun _ => ?_) (fun z => absurd (decide_eq_true h1) z)⟩
    refine ⟨_, rfl, _, _, rfl, rfl, ?_⟩
    show Q (V.bl (decide (n ≤ hi))) H
    rw [decide_eq_true h2]
    exact q
def spLki (K : PySem.W.Frag) : Sp := fun vs H Q _ => ∃ (a dx wt : Addr), vs = [.ref a, .ref wt] ∧ H a = some (.ins (He.ga K "Looks") dx []) ∧ ∀ H' ld, LkAt K H' a wt ld (fun _ => False) → Frm a H H' → H ld = none → Q .non H'
theorem scLki : FnScope ["self", "world"] ["self", "world"] (defScope s_Looks_init) := ⟨rfl, rfl, rfl, by decide +kernel, rfl, by decide +kernel, by decide +kernel⟩
theorem ok_Looks_init (T : Txt K w mg) : FnOk P w K mg base CX0 1 (He.fAd K ("Looks", some "__init__")) (fdAt K (He.fAd K ("Looks", some "__init__"))) ["self", "world"] (spLki K) := by
  refine T.F_Looks_init.ok scLki (fun vs H Q E h => ?_) (fun cdv A outer s H vs Q E hr h => ?_)
  · obtain ⟨a, dx, wt, rfl, _⟩ := h
    rfl
  · obtain ⟨a, dx, wt, rfl, ha, k⟩ := h
    refine ⟨_, PSs.nox (pss_cons (ps_fld (pv 0) (pv 1) rfl)
      (pss_one (ps_fld (pv 0) pe_dnewK rfl))), ?_⟩
    refine ⟨_, rfl, _, rfl, a, _, dx, _, rfl, ha, T.k_Looks, T.a_Looks__world, (show 0 < 1000 by decide), ?_⟩
    refine fun ld nld => ?_
    refine ⟨_, rfl, a, _, dx, _, rfl, (new_same nld) _ _ upd_same, T.k_Looks, T.a_Looks__looked, (show 1 < 1000 by decide), ?_⟩
    have hla : ld ≠ a := fun e => by
      rw [e, upd_same] at nld
      cases nld
    have nH : H ld = none := by
      rw [upd_ne hla] at nld
      exact nld
    refine k _ ld ⟨dx, upd_same, ?_⟩ (fun b o n z => ?_) nH
    · refine kset_nil ?_
      rw [upd_ne hla, upd_same]
    · rw [upd_ne n]
      rw [upd_ne (ne_of_none z nH), upd_ne n]
      exact z
def spAt (K : PySem.W.Frag) : Sp := fun vs H Q _ => ∃ (a wt ld : Addr) (wv : List V) (p : Int → Prop) (n : Nat) (v : V), vs = [.ref a, .int (n : Int)] ∧ LkAt K H a wt ld p ∧ SqT K H wt wv ∧ wv[n]? = some v ∧ Cel (n : Int) ∧ ∀ H', Frm ld H H' → LkAt K H' a wt ld (fun c => p c ∨ c = (n : Int)) → Q v H'
theorem scAt : FnScope ["self", "cell"] ["self", "cell"] (defScope s_Looks_at) := ⟨rfl, rfl, rfl, by decide +kernel, rfl, by decide +kernel, by decide +kernel⟩
theorem ok_Looks_at (T : Txt K w mg) : FnOk P w K mg base CX0 3 (He.fAd K ("Looks", some "at")) (fdAt K (He.fAd K ("Looks", some "at"))) ["self", "cell"] (spAt K) := by
  refine T.F_Looks_at.ok scAt (fun vs H Q E h => ?_) (fun cdv A outer s H vs Q E hr h => ?_)
  · obtain ⟨a, wt, ld, wv, p, n, v, rfl, _⟩ := h
    rfl
  · obtain ⟨a, wt, ld, wv, p, n, v, rfl, lk, sq, hv, hc, k⟩ := h
    have hu := Nat.lt_of_le_of_lt (Nat.add_le_add_left (by decide : 1 ≤ 64) _) hr.units
    refine ⟨_, PSs.nox (pss_cons (ps_if (pt_not (pt_val (pe_call (ok_is_between T) (hr.mono (by first | decide | omega)) (by rfl) T.g_is_between (T.F_is_between).kp T.b_is_between .nil pass0 (pa_cons (pv 1) (pa_cons pe_int (pa_cons (pe_op op_sub (pe_callB (r := Evl.rLenS K) call_len_seq (by rfl) T.n_len PyProof.Rows.Boot.«len» (pa_cons (pe_fld (pv 0) rfl) pa_nil)) pe_int) pa_nil)))))) (pss_one ps_never) pss_nil)
      (pss_cons (ps_dput hu (pe_fld (pv 0) rfl) (pv 1) pe_bl rfl)
      (pss_one (ps_ret (pe_ix (r := rIxT K) ix_tup (pe_fld (pv 0) rfl) (pv 1) (fun _ _ => rfl)))))), ?_⟩
    obtain ⟨dx, ha, ks⟩ := id lk
    obtain ⟨kvs, hk⟩ := ks.dict
    have hlt := (List.getElem?_eq_some_iff.mp hv).1
    refine ⟨_, rfl, _, rfl, a, _, dx, _, .ref wt, rfl, ha, T.k_Looks, T.a_Looks__world, rfl, wt, _, rfl, .inr sq, _, _, rfl, rfl, (n : Int), 0, _, rfl, by omega, by omega, true, rfl, iteF ?_⟩
    refine ⟨_, rfl, a, _, dx, _, .ref ld, rfl, ha, T.k_Looks, T.a_Looks__looked, rfl, _, rfl, ld, _, rfl, DPut.k (k := .inl (n : Int)) hk (Nat.lt_of_le_of_lt (ks.len hk) (by decide)), ?_⟩
    have hal : a ≠ ld := fun e => by
      rw [e, hk] at ha
      cases ha
    have f1 : Frm ld H (upd H ld (.dK (putK kvs (.inl (n : Int)) (.bl true)))) := Frm.of_upd
    have ha2 := f1 _ _ hal ha
    refine ⟨_, rfl, a, _, dx, _, .ref wt, rfl, ha2, T.k_Looks, T.a_Looks__world, rfl, _, rfl, wt, _, _, _, rfl, rfl, (Frm.tfk f1 hk).sq sq, atI_nat hv, ?_⟩
    exact k _ f1 ⟨dx, ha2, kset_put ks hk hc⟩
/-! ### seen -/
theorem TF.lst1 {H : Hp} {p : Addr} {o : HO} {xs : List V} (h : H p = some (.lst xs)) : TF H (upd H p o) := fun c ys z => by
  rcases z with z | ⟨u, z⟩
  · exact .inl (by rw [upd_ne (fun q => by rw [q, h] at z; cases z)]; exact z)
  · exact .inr ⟨u, by rw [upd_ne (fun q => by rw [q, h] at z; cases z)]; exact z⟩
theorem dpa_ap {K : PySem.W.Frag} {H : Hp} : ∀ {xs ys : List V} {ds es : List PyData}, DpAll K H xs ds → DpAll K H ys es → DpAll K H (xs ++ ys) (ds ++ es)
  | _, _, _, _, .nil, h => h
  | _, _, _, _, .cons a t, h => .cons a (dpa_ap t h)
theorem nl_gd : ∀ {l : List PyData}, NLs l → ∀ n, NL (l.getD n .none)
  | [], _, n => by rw [List.getD_nil]; trivial
  | d :: l, h, 0 => h.1
  | d :: l, h, n + 1 => by rw [List.getD_cons_succ]; exact nl_gd h.2 n
def seenD (wd : List PyData) (ys : List Int) : PyData := .tuple (ys.map fun c => .tuple [.int c, wd.getD c.toNat .none])
theorem nls_seen (wd : List PyData) (nl : NLs wd) : ∀ ys : List Int, NLs (ys.map fun c => PyData.tuple [.int c, wd.getD c.toNat .none])
  | [] => trivial
  | c :: ys => by
    refine ⟨⟨trivial, ?_, trivial⟩, nls_seen wd nl ys⟩
    exact nl_gd nl _
/-- what a comprehension over the cells gathers -/
def SeenV (K : PySem.W.Frag) (H : Hp) (wd : List PyData) (ys : List Int) (acc : List V) : Prop := DpAll K H acc (ys.map fun c => PyData.tuple [.int c, wd.getD c.toNat .none])
theorem seen_step {K : PySem.W.Frag} {H0 H1 : Hp} {D q : Addr} {wd : List PyData} {ys : List Int} {acc : List V} {i : Nat} {c : Int} {v : V} (nl : NLs wd) (nD : H0 D = none) (sm : Same H0 H1) (hacc : H1 D = some (.lst acc)) (hs : SeenV K H1 wd (ys.take i) acc) (hy : ys[i]? = some c) (hv : Dp K H1 v (wd.getD c.toNat .none)) (nv : NL (wd.getD c.toNat .none)) (nq : H1 q = none) (hl : ys.length ≤ 1000) :
    ∃ acc', (upd H1 q (.tup [.int c, v])) D = some (.lst acc') ∧ acc'.length < sizeLine ∧ (∃ acc2, (upd (upd H1 q (.tup [.int c, v])) D (.lst (acc' ++ [.ref q]))) D = some (.lst acc2) ∧ SeenV K (upd (upd H1 q (.tup [.int c, v])) D (.lst (acc' ++ [.ref q]))) wd (ys.take (i + 1)) acc2 ∧ Same H0 (upd (upd H1 q (.tup [.int c, v])) D (.lst (acc' ++ [.ref q])))) := by
  have s1 := new_same (o := .tup [.int c, v]) nq
  have h1 := s1 _ _ hacc
  have tf := TF.lst1 (o := .lst (acc ++ [.ref q])) h1
  have al : acc.length ≤ ys.length := by
    rw [dpa_len hs, List.length_map, List.length_take]
    omega
  refine ⟨acc, h1, Nat.lt_of_le_of_lt (show acc.length ≤ 1000 by omega) (by decide), acc ++ [.ref q], upd_same, ?_, fun b o z => ?_⟩
  · unfold SeenV
    rw [List.take_add_one, hy, List.map_append]
    refine dpa_ap (dpa_nl ((same_tf s1).trans tf) _ _ (nls_seen wd nl _) hs) (.cons ?_ .nil)
    exact .tup (tf.sq (SqT.of upd_same)) (.cons (.int _) (.cons (dp_nl ((same_tf s1).trans tf) _ _ nv hv) .nil))
  · rw [upd_ne (ne_of_none z nD)]
    exact s1 _ _ (sm _ _ z)
theorem dpa_gd {K : PySem.W.Frag} {H : Hp} {wv : List V} {wd : List PyData} (d : DpAll K H wv wd) {n : Nat} (h : n < wv.length) : ∃ v, wv[n]? = some v ∧ Dp K H v (wd.getD n .none) := by
  have hl := dpa_len d
  obtain ⟨v, h1, h2⟩ := dpa_get d (List.getElem?_eq_getElem (show n < wd.length by omega))
  refine ⟨v, h1, ?_⟩
  rw [List.getD, List.getElem?_eq_getElem (show n < wd.length by omega)]
  exact h2
def spSeen (K : PySem.W.Frag) : Sp := fun vs H Q _ => ∃ (a wt ld : Addr) (wv : List V) (wd : List PyData) (p : Int → Prop), vs = [.ref a] ∧ LkAt K H a wt ld p ∧ SqT K H wt wv ∧ DpAll K H wv wd ∧ NLs wd ∧ (∀ c, p c → 0 ≤ c ∧ c < (wv.length : Int)) ∧
  ∀ t ys H', Same H H' → ys.Pairwise (· < ·) → (∀ c, c ∈ ys ↔ p c) → Dp K H' (.ref t) (seenD wd ys) → Q (.ref t) H'
theorem scSee : FnScope ["self", "cell"] ["self"] (defScope s_Looks_seen) := ⟨rfl, rfl, rfl, by decide +kernel, rfl, by decide +kernel, by decide +kernel⟩
theorem ok_Looks_seen (T : Txt K w mg) : FnOk P w K mg base CX0 1 (He.fAd K ("Looks", some "seen")) (fdAt K (He.fAd K ("Looks", some "seen"))) ["self"] (spSeen K) := by
  refine T.F_Looks_seen.ok scSee (fun vs H Q E h => ?_) (fun cdv A outer s H vs Q E hr h => ?_)
  · obtain ⟨a, wt, ld, wv, wd, p, rfl, _⟩ := h
    rfl
  · obtain ⟨a, wt, ld, wv, wd, p, rfl, lk, sq, dw, nl, hp, k⟩ := h
    refine ⟨_, PSs.nox (pss_one (ps_ret (pe_callTy call_tuple_of (by rfl) T.n_tuple PyProof.Rows.Boot.«tuple» (pa_cons (pe_lc (own := [("cell", 1)]) (g := gName 1) (tt := tYes) (by rfl) scSee.nd (pi_list (pe_callB (call_sortedDI (by rfl)) (by rfl) T.n_sorted PyProof.Rows.Boot.«sorted» (pa_cons (pe_fld (pv 0) rfl) pa_nil))) (blkOk_by (own := [("cell", 1)]) (N := ["self", "cell"]) (sc := defScope s_Looks_seen) (by decide +kernel)) (fun _ _ _ _ _ => pg_name (i := 1) scSee.nd rfl (Or.inl rfl)) (fun _ _ _ _ _ => pts_nil) (fun _ _ _ _ _ => (pe_tup (pa_cons (pv 1) (pa_cons (pe_ix (r := rIxT K) ix_tup (show PE _ _ (tFld K (tVar 0) "_world") from pe_fld (pv 0) rfl) (pv 1) (fun _ _ => rfl)) pa_nil))))) pa_nil)))), ?_⟩
    obtain ⟨dx, ha, kvs, ks, hk, hkk, hnd, hmem, hcel⟩ := id lk
    have k56 := cel_len hnd hcel
    refine ⟨_, rfl, a, _, dx, _, .ref ld, rfl, ha, T.k_Looks, T.a_Looks__looked, rfl, ld, kvs, ks, rfl, .inl hk, hkk, by omega, fun ys q hperm hsort nq => ?_⟩
    have s1 := new_same (o := .lst (ys.map V.int)) nq
    have hq : (upd H q (.lst (ys.map V.int))) q = some (.lst (ys.map V.int)) := upd_same
    have yn : ys.Nodup := hperm.nodup_iff.mpr hnd
    have yl : ys.length ≤ 1000 := by rw [hperm.length_eq]; omega
    have ym : ∀ c, c ∈ ys ↔ p c := fun c => (hperm.mem_iff).trans (hmem c)
    refine ⟨q, rfl, ⟨_, SqL.of hq⟩, fun D hD => ?_⟩
    refine lc_it (walk_list (K := K) (a := q) (xs := ys.map V.int)) (fun i H' => ∃ acc, H' D = some (.lst acc) ∧ SeenV K H' wd (ys.take i) acc ∧ Same (upd H q (.lst (ys.map V.int))) H') ⟨[], upd_same, by rw [List.take_zero]; exact .nil, new_same hD⟩ (fun i H' _ h => by obtain ⟨_, _, _, h⟩ := h; exact SqL.of (h _ _ hq)) (fun i v H' Hx hi h yy => ?_) (fun H' h => ?_)
    · obtain ⟨rfl, hv⟩ := yy
      obtain ⟨acc, hacc, hs, sm⟩ := h
      rw [List.length_map] at hi
      have hx := List.getElem?_eq_getElem hi
      obtain ⟨c, hc⟩ : ∃ c, c = ys[i] := ⟨_, rfl⟩
      rw [← hc] at hx
      rw [List.getElem?_map, hx] at hv
      cases hv
      refine ⟨rfl, ?_⟩
      dsimp only [tYes]
      rw [if_pos rfl]
      have S := s1.trans sm
      obtain ⟨c0, c1⟩ := hp c ((ym c).mp (List.mem_of_getElem? hx))
      obtain ⟨n, rfl⟩ := Int.eq_ofNat_of_zero_le c0
      have hn : n < wv.length := by omega
      obtain ⟨v, hv1, hv2⟩ := dpa_gd dw hn
      refine ⟨_, rfl, _, rfl, a, _, dx, _, .ref wt, rfl, S _ _ ha, T.k_Looks, T.a_Looks__world, rfl, _, rfl, wt, _, _, v, rfl, rfl, (same_tf S).sq sq, atI_nat hv1, (show 2 ≤ sizeLine by decide), fun q2 nq2 => ?_⟩
      exact seen_step nl hD sm hacc hs hx (by rw [Int.toNat_natCast]; exact dp_nl (same_tf S) _ _ (nl_gd nl _) hv2) (nl_gd nl _) nq2 yl
    · obtain ⟨acc, hacc, hs, sm⟩ := h
      rw [List.length_map, List.take_length] at hs
      refine ⟨D, acc, rfl, .inl ⟨SqL.of hacc, fun t nt => ?_⟩⟩
      have st := new_same (o := .tup acc) nt
      exact k t ys _ ((s1.trans sm).trans st) (lt_of hsort yn) ym (.tup (SqT.of upd_same) (dpa_nl (same_tf st) _ _ (nls_seen wd nl _) hs))
end
end K22
set_option maxRecDepth 100000
set_option maxHeartbeats 4000000
/-! Meeting: the program. -/
namespace K22
open PySem PySem.Spec PyProof.Rows L2 KF KD KP
def Gm.bx (G : Gm) (t : Tg) : Bx := match G.kds[t.k]? with
  | some kd => t.box kd
  | none => ⟨0, 0, 1, 1⟩
def Gm.hs (G : Gm) (t : Tg) (n : Str) : Bool := match G.kds[t.k]? with
  | some kd => kd.has n
  | none => false
structure TgOk (G : Gm) (t : Tg) : Prop where
  k : t.k < G.kds.length
  x1 : -1000 ≤ t.x
  x2 : t.x ≤ 1000
  y1 : -1000 ≤ t.y
  y2 : t.y < G.hi
theorem hi_le {G : Gm} (o : G.ok) : 8 ≤ G.hi ∧ G.hi ≤ 160 := by
  have h2 : G.hi = 8 * (G.rows.length : Int) := rfl
  have := o.r1
  have := o.r2
  omega
theorem TgOk.kd {G : Gm} {t : Tg} (h : TgOk G t) : ∃ kd, G.kds[t.k]? = some kd ∧ kd ∈ G.kds := ⟨_, List.getElem?_eq_getElem h.k, List.getElem_mem h.k⟩
theorem TgOk.lim {G : Gm} {t : Tg} (o : G.ok) (h : TgOk G t) : (G.bx t).lim ∧ (∀ dx dy : Int, -1 ≤ dx → dx ≤ 1 → -1 ≤ dy → dy ≤ 1 → ((G.bx t).mv dx dy).lim) ∧ (G.bx t).y + (G.bx t).h ≤ 100000 := by
  obtain ⟨kd, hk, hm⟩ := h.kd
  obtain ⟨a1, a2, a3, a4, _⟩ := o.kw kd hm
  have hh := hi_le o
  have e : G.bx t = t.box kd := by rw [Gm.bx, hk]
  have := h.x1
  have := h.x2
  have := h.y1
  have := h.y2
  rw [e]
  refine ⟨⟨?_, ?_, ?_, ?_, ?_, ?_, ?_, ?_⟩, fun dx dy b1 b2 b3 b4 => ⟨?_, ?_, ?_, ?_, ?_, ?_, ?_, ?_⟩, ?_⟩ <;> (dsimp only [Tg.box, Bx.mv]; omega)
/-- what lies in a slot -/
def SlAt (K : PySem.W.Frag) (H : Hp) (v : V) : Option Tg → Prop
  | none => v = .non
  | some t => TgAt K H v t
theorem SlAt.tf {K : PySem.W.Frag} {H H' : Hp} {v : V} {o : Option Tg} (h : SlAt K H v o) (e : TF H H') : SlAt K H' v o := by
  cases o with
  | none => exact h
  | some t => exact TgAt.tf h e
structure SlAll (G : Gm) (sl : List (Option Tg)) : Prop where
  len : sl.length = 16
  ok : ∀ t, some t ∈ sl → TgOk G t
def inB (G : Gm) (sl : List (Option Tg)) (c : Int) (s : Nat) : Bool := match sl[s]? with
  | some (some t) => decide (c ∈ G.blk (G.bx t))
  | _ => false
def bkt (G : Gm) (sl : List (Option Tg)) (c : Int) : List Nat := (List.range 16).filter (inB G sl c)
def near (G : Gm) (sl : List (Option Tg)) (cs : List Int) (s : Nat) : Bool := cs.any fun c => inB G sl c s
def meetS (G : Gm) (sl : List (Option Tg)) (b : Bx) (s : Nat) : Bool := match sl[s]? with
  | some (some t) => meets b (G.bx t)
  | _ => false
def nV (l : List Nat) : List V := l.map fun n : Nat => V.int (n : Int)
def lookL (G : Gm) (sl : List (Option Tg)) (b : Bx) (but : List Nat) : List Nat := (List.range 16).filter fun s => !but.contains s && (near G sl (G.blk b) s && meetS G sl b s)
def seenP (G : Gm) (sl : List (Option Tg)) (b : Bx) (but : List Nat) (p : Int → Prop) (c : Int) : Prop := p c ∨ c ∈ G.blk b ∨ ∃ s : Nat, c = (s : Int) ∧ s < 16 ∧ s ∉ but ∧ near G sl (G.blk b) s = true
theorem near_thing {G : Gm} {sl : List (Option Tg)} {cs : List Int} {s : Nat} (h : near G sl cs s = true) : ∃ t, sl[s]? = some (some t) := by
  obtain ⟨c, _, hc⟩ := List.any_eq_true.mp h
  unfold inB at hc
  split at hc
  · rename_i t e
    exact ⟨t, e⟩
  · cases hc
structure WtAt (K : PySem.W.Frag) (H : Hp) (wt : Addr) (wv : List V) (G : Gm) (sl : List (Option Tg)) : Prop where
  sq : SqT K H wt wv
  len : (wv.length : Int) = 49 + G.bh * G.bw
  st : ∀ (i : Nat) (o : Option Tg), sl[i]? = some o → ∃ v : V, wv[i]? = some v ∧ SlAt K H v o
  bk : ∀ c : Nat, 49 ≤ c → c < wv.length → ∃ p : Addr, wv[c]? = some (.ref p) ∧ SqT K H p (nV (bkt G sl (c : Int)))
theorem WtAt.tf {K : PySem.W.Frag} {H H' : Hp} {wt : Addr} {wv : List V} {G : Gm} {sl : List (Option Tg)} (h : WtAt K H wt wv G sl) (e : TF H H') : WtAt K H' wt wv G sl :=
  ⟨e.sq h.sq, h.len, fun i o z => by obtain ⟨v, h1, h2⟩ := h.st i o z; exact ⟨v, h1, h2.tf e⟩, fun c h1 h2 => by obtain ⟨p, h3, h4⟩ := h.bk c h1 h2; exact ⟨p, h3, e.sq h4⟩⟩
theorem bhw {G : Gm} (o : G.ok) : G.bh * G.bw ≤ 40 ∧ 0 ≤ G.bh * G.bw := by
  have h3 : G.bw = ((G.W : Int) + 3) / 4 := rfl
  have h4 : G.bh = ((G.rows.length : Int) + 3) / 4 := rfl
  have := o.w1
  have := o.w2
  have := o.r1
  have := o.r2
  have e1 : G.bh * G.bw ≤ 5 * G.bw := Int.mul_le_mul_of_nonneg_right (by omega) (by omega)
  have e2 : 0 ≤ G.bh * G.bw := Int.mul_nonneg (by omega) (by omega)
  omega
/-- all but two -/
def F2 (x y : Addr) (H H' : Hp) : Prop := ∀ b o, b ≠ x → b ≠ y → H b = some o → H' b = some o
theorem F2.refl (x y : Addr) (H : Hp) : F2 x y H H := fun _ _ _ _ h => h
theorem F2.trans {x y : Addr} {H H1 H2 : Hp} (a : F2 x y H H1) (b : F2 x y H1 H2) : F2 x y H H2 := fun c o n m h => b c o n m (a c o n m h)
theorem F2.l {x y : Addr} {H H' : Hp} (a : Frm x H H') : F2 x y H H' := fun c o n _ h => a c o n h
theorem F2.r {x y : Addr} {H H' : Hp} (a : Frm y H H') : F2 x y H H' := fun c o _ m h => a c o m h
theorem F2.tf {x y : Addr} {H H' : Hp} {k1 k2 : List (Key × V)} (f : F2 x y H H') (h1 : H x = some (.dK k1)) (h2 : H y = some (.dK k2)) : TF H H' := fun c ys z => by
  rcases z with z | ⟨u, z⟩
  · exact .inl (f c _ (fun q => by rw [q, h1] at z; cases z) (fun q => by rw [q, h2] at z; cases z) z)
  · exact .inr ⟨u, f c _ (fun q => by rw [q, h1] at z; cases z) (fun q => by rw [q, h2] at z; cases z) z⟩
theorem F2.tfn {x y : Addr} {H H' : Hp} {k1 : List (Key × V)} (f : F2 x y H H') (h1 : H x = some (.dK k1)) (h2 : H y = none) : TF H H' := fun c ys z => by
  rcases z with z | ⟨u, z⟩
  · exact .inl (f c _ (fun q => by rw [q, h1] at z; cases z) (fun q => by rw [q, h2] at z; cases z) z)
  · exact .inr ⟨u, f c _ (fun q => by rw [q, h1] at z; cases z) (fun q => by rw [q, h2] at z; cases z) z⟩
theorem near_take {G : Gm} {sl : List (Option Tg)} {cs : List Int} {i : Nat} {c : Int} (h : cs[i]? = some c) (s : Nat) : near G sl (cs.take (i + 1)) s = true ↔ near G sl (cs.take i) s = true ∨ inB G sl c s = true := by
  unfold near
  rw [List.take_add_one, h, List.any_append, Bool.or_eq_true]
  simp
theorem bkt_mem {G : Gm} {sl : List (Option Tg)} {c : Int} {s : Nat} : s ∈ bkt G sl c ↔ s < 16 ∧ inB G sl c s = true := by
  rw [bkt, List.mem_filter, List.mem_range]
theorem meetS_at {G : Gm} {sl : List (Option Tg)} {b : Bx} {s : Nat} {t : Tg} {kd : Kd} (h : sl[s]? = some (some t)) (hk : G.kds[t.k]? = some kd) : meetS G sl b s = meets b (t.box kd) := by
  unfold meetS Gm.bx
  rw [h]
  dsimp only
  rw [hk]
theorem inV_nat (n : Nat) : ∀ l : List Nat, inV (.int (n : Int)) (nV l) = l.contains n
  | [] => rfl
  | m :: l => by
    have h := inV_nat n l
    unfold inV nV at h ⊢
    rw [List.map_cons, List.any_cons, h, List.contains_cons]
    congr 1
    show ((m : Int) == (n : Int)) = (n == m)
    rw [Bool.eq_iff_iff]
    simp
    omega
theorem flat_nat : ∀ l : List Nat, (nV l).all flatV = true
  | [] => rfl
  | _ :: l => flat_nat l
section
variable {P : Program} {w : World} {K : PySem.W.Frag} {mg : Str → Option Value} {base : Heap}
def spMeeting (K : PySem.W.Frag) : Sp := fun vs H Q _ => ∃ (g u : V) (a wt ld bu : Addr) (wv : List V) (G : Gm) (sl : List (Option Tg)) (b : Bx) (but : List Nat) (p : Int → Prop), vs = [g, .ref a, u, .ref bu] ∧ GmAt K H g G ∧ G.ok ∧ SlAll G sl ∧ LkAt K H a wt ld p ∧ WtAt K H wt wv G sl ∧ BxAt K H u b ∧ b.lim ∧ SqT K H bu (nV but) ∧
  ∀ t H', Frm ld H H' → LkAt K H' a wt ld (seenP G sl b but p) → SqT K H' t (nV (lookL G sl b but)) → Q (.ref t) H'
theorem scMt : FnScope ["game", "looks", "box", "but", "near", "cell", "slot"] ["game", "looks", "box", "but"] (defScope s_meeting) := ⟨rfl, rfl, rfl, by decide +kernel, rfl, by decide +kernel, by decide +kernel⟩
theorem ok_meeting (T : Txt K w mg) : FnOk P w K mg base CX0 4 (He.fAd K ("meeting", none)) (fdAt K (He.fAd K ("meeting", none))) ["game", "looks", "box", "but"] (spMeeting K) := by
  refine T.F_meeting.ok scMt (fun vs H Q E h => ?_) (fun cdv A outer s H vs Q E hr h => ?_)
  · obtain ⟨g, u, a, wt, ld, bu, wv, G, sl, b, but, p, rfl, _⟩ := h
    rfl
  · obtain ⟨g, u, a, wt, ld, bu, wv, G, sl, b, but, p, rfl, hg, o, sa, lk, hw, hb, lim, hbu, k⟩ := h
    have hu := Nat.lt_of_le_of_lt (Nat.add_le_add_left (by decide : 1 ≤ 64) _) hr.units
    refine ⟨_, PSs.nox (pss_cons (ps_set (i := 4) scMt.nd rfl (Or.inl rfl) pe_dnewK)
      (pss_cons (ps_for PassesOwn.never rfl (pi_tup (pe_call (ok_buckets_of T) (hr.mono (by first | decide | omega)) (by rfl) T.g_buckets_of (T.F_buckets_of).kp T.b_buckets_of .nil pass0 (pa_cons (pv 0) (pa_cons (pv 2) pa_nil)))) (pg_name (i := 5) scMt.nd rfl (Or.inl rfl)) (pss_one (ps_for PassesOwn.never rfl (pi_tup (pe_meth (pv 1) T.k_Looks T.e_Looks_at (ok_Looks_at T) (hr.mono (by decide)) T.b_Looks_at .nil pass0 (pa_cons (pv 5) pa_nil))) (pg_name (i := 6) scMt.nd rfl (Or.inl rfl)) (pss_one (ps_if (pt_cmpR (r := rIn K true) op_notIn_seq (pv 6) (pv 3) rfl) (pss_one (ps_dput hu (pv 4) (pv 6) pe_bl rfl)) pss_nil)))))
      (pss_one (ps_ret (pe_callTy call_tuple_of (by rfl) T.n_tuple PyProof.Rows.Boot.«tuple» (pa_cons (pe_lc (own := [("slot", 6)]) (g := gName 6) (by rfl) scMt.nd (pi_list (pe_callB (call_sortedDI (by rfl)) (by rfl) T.n_sorted PyProof.Rows.Boot.«sorted» (pa_cons (pv 4) pa_nil))) (blkOk_by (own := [("slot", 6)]) (N := ["game", "looks", "box", "but", "near", "cell", "slot"]) (sc := defScope s_meeting) (by decide +kernel)) (fun _ _ _ _ _ => pg_name (i := 6) scMt.nd rfl (Or.inl rfl)) (fun _ _ _ _ _ => pts_one (pt_val (pe_call (ok_meet T) (hr.mono (by first | decide | omega)) (by rfl) T.g_meet (T.F_meet).kp T.b_meet .nil pass0 (pa_cons (pv 2) (pa_cons (pe_call (ok_body_box T) (hr.mono (by first | decide | omega)) (by rfl) T.g_body_box (T.F_body_box).kp T.b_body_box .nil pass0 (pa_cons (pv 0) (pa_cons (pe_meth (pv 1) T.k_Looks T.e_Looks_at (ok_Looks_at T) (hr.mono (by first | decide | omega)) T.b_Looks_at .nil pass0 (pa_cons (pv 6) pa_nil)) pa_nil))) pa_nil))))) (fun _ _ _ _ _ => (pv 6))) pa_nil)))))), ?_⟩
    obtain ⟨dx, ha, ks⟩ := id lk
    obtain ⟨kvs0, hk0⟩ := ks.dict
    refine fun nd nnd => ?_
    have s0 := new_same (o := .dK []) nnd
    have hndl : nd ≠ ld := (ne_of_none hk0 nnd).symm
    have hnda : nd ≠ a := (ne_of_none ha nnd).symm
    have hal : a ≠ ld := fun e => by rw [e, hk0] at ha; cases ha
    refine ⟨_, rfl, _, rfl, g, u, G, b, rfl, hg.tf (same_tf s0), o, hb.tf (same_tf s0), lim, fun t1 H1 s1 ht1 => ⟨t1, rfl, ⟨_, ht1⟩, ?_⟩⟩
    have S1 := s0.trans s1
    have lk1 := lk.same S1
    have nd1 : H1 nd = some (.dK []) := s1 _ _ upd_same
    have hw1 := hw.tf (same_tf S1)
    have hbu1 := (same_tf S1).sq hbu
    obtain ⟨cs, hcs⟩ : ∃ cs, cs = G.blk b := ⟨_, rfl⟩
    have csl : cs.length ≤ 40 := by rw [hcs]; exact blk_len o lim
    have csm : ∀ c ∈ cs, 49 ≤ c ∧ c < 49 + G.bh * G.bw := fun c hc => blk_mem o lim (by rw [← hcs]; exact hc)
    have b40 := bhw o
    rw [← hcs] at ht1
    have tfo : ∀ {H' : Hp}, F2 ld nd H1 H' → TF H1 H' := fun f => F2.tf f (S1 _ _ hk0) nd1
    refine L2.for_it (walk_tup (K := K) (a := t1) (xs := cs.map V.int)) (fun i σ H' => ∃ v5 v6 : Option V, σ = [some g, some (.ref a), some u, some (.ref bu), some (.ref nd), v5, v6] ∧ F2 ld nd H1 H' ∧ KSet H' nd (fun c => ∃ s : Nat, c = (s : Int) ∧ s < 16 ∧ s ∉ but ∧ near G sl (cs.take i) s = true) ∧ LkAt K H' a wt ld (fun c => p c ∨ c ∈ cs.take i)) ⟨_, _, rfl, F2.refl _ _ _, (kset_nil nd1).imp fun c => ⟨fun z => z.elim, fun ⟨s, _, _, _, z⟩ => by rw [List.take_zero] at z; cases z⟩, lk1.imp fun c => by rw [List.take_zero]; simp⟩ (fun i σ H' _ h => by obtain ⟨_, _, _, f, _⟩ := h; exact (tfo f).sq ht1) (fun i x σ H2 Hx hi hPv hy => ?_) (fun σ H2 hPv => ?_)
    · obtain ⟨v5, v6, rfl, f2, kn2, lk2⟩ := hPv
      obtain ⟨rfl, hx⟩ := hy
      rw [List.length_map] at hi
      have hci := List.getElem?_eq_getElem hi
      obtain ⟨c, hc⟩ : ∃ c, c = cs[i] := ⟨_, rfl⟩
      rw [← hc] at hci
      rw [List.getElem?_map, hci] at hx
      cases hx
      obtain ⟨c1, c2⟩ := csm c (List.mem_of_getElem? hci)
      obtain ⟨n, rfl⟩ := Int.eq_ofNat_of_zero_le (show 0 ≤ c by omega)
      have hw2 := hw1.tf (tfo f2)
      have hl := hw2.len
      obtain ⟨pb, hpb, hpbs⟩ := hw2.bk n (by omega) (by omega)
      obtain ⟨dx2, ha2, _⟩ := id lk2
      refine ⟨_, rfl, a, dx2, _, rfl, ha2, rfl, _, rfl, a, wt, ld, wv, _, n, _, rfl, lk2, hw2.sq, hpb, .inr (by omega), fun H3 f3 lk3 => ⟨pb, rfl, ⟨_, (lk2.tf f3).sq hpbs⟩, ?_⟩⟩
      have F3 := f2.trans (F2.l (y := nd) f3)
      have kn3 := kn2.frm f3 hndl
      have tb3 := (lk2.tf f3).sq hpbs
      have hbk16 : ∀ s ∈ bkt G sl (n : Int), s < 16 := fun s hs => (bkt_mem.mp hs).1
      refine L2.for_it (walk_tup (K := K) (a := pb) (xs := nV (bkt G sl (n : Int)))) (fun j σ H' => ∃ v6 : Option V, σ = [some g, some (.ref a), some u, some (.ref bu), some (.ref nd), some (.int (n : Int)), v6] ∧ Frm nd H3 H' ∧ KSet H' nd (fun c => (∃ s : Nat, c = (s : Int) ∧ s < 16 ∧ s ∉ but ∧ near G sl (cs.take i) s = true) ∨ ∃ s : Nat, c = (s : Int) ∧ s ∉ but ∧ s ∈ (bkt G sl (n : Int)).take j)) ⟨_, rfl, Frm.refl _ _, kn3.imp fun c => by rw [List.take_zero]; simp⟩ (fun j σ H' _ h => by obtain ⟨_, _, f, _⟩ := h; exact (Frm.tfk f kn3.dict.choose_spec).sq tb3) (fun j x σ Hx H4 hj hPv hy => ?_) (fun σ H4 hPv => ?_)
      · obtain ⟨v6, rfl, f4, kn4⟩ := hPv
        obtain ⟨rfl, hx⟩ := hy
        unfold nV at hj hx
        rw [List.length_map] at hj
        have hsj := List.getElem?_eq_getElem hj
        obtain ⟨s0', hs0⟩ : ∃ z, z = (bkt G sl (n : Int))[j] := ⟨_, rfl⟩
        rw [← hs0] at hsj
        rw [List.getElem?_map, hsj] at hx
        cases hx
        have hsm := List.mem_of_getElem? hsj
        have tk : ∀ s, s ∈ (bkt G sl (n : Int)).take (j + 1) ↔ s ∈ (bkt G sl (n : Int)).take j ∨ s = s0' := fun s => by
          rw [List.take_add_one, hsj, List.mem_append]
          simp
        have tf14 : TF H1 H4 := tfo (F3.trans (F2.r (x := ld) f4))
        refine ⟨_, rfl, _, rfl, bu, _, rfl, .inr (tf14.sq hbu1), rfl, flat_nat _, _, rfl, ite2 (fun z => ?_) (fun z => ?_)⟩
        · have hnb : s0' ∉ but := by
            have z : (!inV (.int (s0' : Int)) (nV but)) = true := z
            rw [inV_nat] at z
            simpa using z
          obtain ⟨kvs4, hk4⟩ := kn4.dict
          refine ⟨_, rfl, _, rfl, nd, _, rfl, DPut.k (k := .inl (s0' : Int)) hk4 (Nat.lt_of_le_of_lt (kn4.len hk4) (by decide)), ?_⟩
          refine ⟨_, rfl, f4.trans Frm.of_upd, (kset_put kn4 hk4 (.inl (by have := hbk16 _ hsm; omega))).imp fun c => ?_⟩
          constructor
          · rintro ((h | ⟨s, h1, h2, h3⟩) | h)
            · exact .inl h
            · exact .inr ⟨s, h1, h2, (tk s).mpr (.inl h3)⟩
            · exact .inr ⟨s0', h, hnb, (tk s0').mpr (.inr rfl)⟩
          · rintro (h | ⟨s, h1, h2, h3⟩)
            · exact .inl (.inl h)
            · rcases (tk s).mp h3 with h3 | h3
              · exact .inl (.inr ⟨s, h1, h2, h3⟩)
              · exact .inr (by rw [h1, h3])
        · have hb' : s0' ∈ but := by
            have z : ¬ (!inV (.int (s0' : Int)) (nV but)) = true := z
            rw [inV_nat] at z
            simpa using z
          refine ⟨_, rfl, f4, kn4.imp fun c => ?_⟩
          constructor
          · rintro (h | ⟨s, h1, h2, h3⟩)
            · exact .inl h
            · exact .inr ⟨s, h1, h2, (tk s).mpr (.inl h3)⟩
          · rintro (h | ⟨s, h1, h2, h3⟩)
            · exact .inl h
            · rcases (tk s).mp h3 with h3 | h3
              · exact .inr ⟨s, h1, h2, h3⟩
              · exact absurd hb' (by rw [← h3]; exact h2)
      · obtain ⟨v6, rfl, f4, kn4⟩ := hPv
        refine ⟨_, _, rfl, F3.trans (F2.r (x := ld) f4), kn4.imp fun c => ?_, (lk3.frm f4 (Ne.symm hnda) (Ne.symm hndl)).imp fun c => ?_⟩
        · unfold nV
          rw [List.length_map, List.take_length]
          constructor
          · rintro (⟨s, h1, h2, h3, h4⟩ | ⟨s, h1, h2, h3⟩)
            · exact ⟨s, h1, h2, h3, (near_take hci s).mpr (.inl h4)⟩
            · obtain ⟨g1, g2⟩ := bkt_mem.mp h3
              exact ⟨s, h1, g1, h2, (near_take hci s).mpr (.inr g2)⟩
          · rintro ⟨s, h1, h2, h3, h4⟩
            rcases (near_take hci s).mp h4 with h4 | h4
            · exact .inl ⟨s, h1, h2, h3, h4⟩
            · exact .inr ⟨s, h1, h3, bkt_mem.mpr ⟨h2, h4⟩⟩
        · rw [List.take_add_one, hci]
          simp only [List.mem_append, Option.toList_some, List.mem_singleton]
          exact or_assoc
    obtain ⟨v5, v6, rfl, f2, kn2, lk2⟩ := hPv
    rw [List.length_map, List.take_length] at kn2 lk2
    obtain ⟨kvs, kl, hk, hkk, hnd, hmem, hcel⟩ := kn2
    have k56 := cel_len hnd hcel
    obtain ⟨L, hL⟩ : ∃ L, L = (List.range 16).filter fun s => !but.contains s && near G sl cs s := ⟨_, rfl⟩
    have hLm : ∀ s, s ∈ L ↔ s < 16 ∧ s ∉ but ∧ near G sl cs s = true := fun s => by
      rw [hL, List.mem_filter, List.mem_range, Bool.and_eq_true]
      simp
    have hLl : L.length ≤ 16 := by
      rw [hL]
      exact Nat.le_trans (List.length_filter_le _ _) (by rw [List.length_range]; exact Nat.le_refl _)
    refine ⟨_, rfl, nd, kvs, kl, rfl, .inl hk, hkk, by omega, fun ys q hperm hsort nq => ?_⟩
    have ey : ys.map V.int = nV L := by
      have e : ys = L.map fun i : Nat => (i : Int) := by
        refine srt_uniq _ _ (lt_of hsort (hperm.nodup_iff.mpr hnd)) (by rw [hL]; exact range_lt 16 _) fun c => ?_
        rw [hperm.mem_iff, hmem, List.mem_map]
        constructor
        · rintro ⟨s, h1, h2, h3, h4⟩
          exact ⟨s, (hLm s).mpr ⟨h2, h3, h4⟩, h1.symm⟩
        · rintro ⟨s, h1, h2⟩
          obtain ⟨g1, g2, g3⟩ := (hLm s).mp h1
          exact ⟨s, h2.symm, g1, g2, g3⟩
      rw [e, List.map_map]
      rfl
    rw [ey]
    have sq := new_same (o := .lst (nV L)) nq
    have hq : (upd H2 q (.lst (nV L))) q = some (.lst (nV L)) := upd_same
    obtain ⟨H3, hH3⟩ : ∃ X, X = upd H2 q (.lst (nV L)) := ⟨_, rfl⟩
    rw [← hH3] at sq hq ⊢
    have lk3 := lk2.same sq
    obtain ⟨dx3, ha3, ks3⟩ := id lk3
    obtain ⟨kvs3, hk3⟩ := ks3.dict
    have F3 : F2 ld nd H1 H3 := f2.trans (F2.l (Frm.of_same sq))
    have hql : q ≠ ld := fun e => by rw [e, hk3] at hq; cases hq
    refine ⟨q, rfl, ⟨_, SqL.of hq⟩, fun D hD => ?_⟩
    have hDl : D ≠ ld := (ne_of_none hk3 hD).symm
    have hDq : D ≠ q := (ne_of_none hq hD).symm
    have hDa : D ≠ a := (ne_of_none ha3 hD).symm
    have tf3 : TF H1 H3 := tfo F3
    refine lc_it (walk_list (K := K) (a := q) (xs := nV L)) (fun i H' => H' D = some (.lst (nV ((L.take i).filter (meetS G sl b)))) ∧ F2 ld D H3 H' ∧ LkAt K H' a wt ld (fun c => (p c ∨ c ∈ cs) ∨ ∃ s : Nat, c = (s : Int) ∧ s ∈ L.take i)) ⟨upd_same, F2.r Frm.of_upd, ?_⟩ (fun i H' _ h => SqL.of (h.2.1 _ _ hql (Ne.symm hDq) hq)) (fun i v Hx H4 hi h yy => ?_) (fun H4 h => ?_)
    · refine (lk3.frm (x := D) Frm.of_upd (Ne.symm hDa) (Ne.symm hDl)).imp fun c => ?_
      rw [List.take_zero]
      simp
    · obtain ⟨hacc, f4, lk4⟩ := h
      obtain ⟨rfl, hv⟩ := yy
      unfold nV at hi hv
      rw [List.length_map] at hi
      have hx := List.getElem?_eq_getElem hi
      obtain ⟨s, hs⟩ : ∃ s, s = L[i] := ⟨_, rfl⟩
      rw [← hs] at hx
      rw [List.getElem?_map, hx] at hv
      cases hv
      obtain ⟨s16, snb, snr⟩ := (hLm s).mp (List.mem_of_getElem? hx)
      obtain ⟨t, hst⟩ := near_thing snr
      obtain ⟨kd, hkd, _⟩ := (sa.ok t (List.mem_of_getElem? hst)).kd
      have tf4 : TF H1 H4 := tf3.trans (F2.tfn f4 hk3 hD)
      have hw4 := hw1.tf tf4
      obtain ⟨v, hv1, hv2⟩ := hw4.st s _ hst
      obtain ⟨dx4, ha4, _⟩ := id lk4
      refine ⟨rfl, ?_⟩
      refine ⟨_, rfl, _, rfl, _, rfl, a, dx4, _, rfl, ha4, rfl, _, rfl, a, wt, ld, wv, _, s, v, rfl, lk4, hw4.sq, hv1, .inl (by omega), fun H5 f5 lk5 => ?_⟩
      have tf5 := tf4.trans (lk4.tf f5)
      refine ⟨g, v, G, t, kd, rfl, hg.tf ((same_tf S1).trans tf5), SlAt.tf (o := some t) hv2 (lk4.tf f5), hkd, fun pb H6 s6 hpb => ?_⟩
      refine ⟨u, .ref pb, b, t.box kd, rfl, hb.tf (((same_tf S1).trans tf5).trans (same_tf s6)), ⟨pb, rfl, SqT.of hpb⟩, ?_⟩
      have hacc6 := s6 _ _ (f5 _ _ hDl hacc)
      have F6 : F2 ld D H3 H6 := (f4.trans (F2.l f5)).trans (F2.l (Frm.of_same s6))
      have lk6 := lk5.same s6
      have eP : ∀ c : Int, (((p c ∨ c ∈ cs) ∨ ∃ s' : Nat, c = (s' : Int) ∧ s' ∈ L.take i) ∨ c = (s : Int)) ↔ ((p c ∨ c ∈ cs) ∨ ∃ s' : Nat, c = (s' : Int) ∧ s' ∈ L.take (i + 1)) := fun c => by
        rw [List.take_add_one, hx]
        simp only [List.mem_append, Option.toList_some, List.mem_singleton]
        constructor
        · rintro ((h | ⟨s', h1, h2⟩) | h)
          · exact .inl h
          · exact .inr ⟨s', h1, .inl h2⟩
          · exact .inr ⟨s, h, .inr rfl⟩
        · rintro (h | ⟨s', h1, h2 | h2⟩)
          · exact .inl (.inl h)
          · exact .inl (.inr ⟨s', h1, h2⟩)
          · exact .inr (by rw [h1, h2])
      have em := meetS_at (G := G) (sl := sl) (b := b) hst hkd
      cases hm : meets b (t.box kd) with
      | true =>
        rw [hm] at em
        refine ⟨true, rfl, iteT ?_⟩
        refine ⟨_, rfl, _, hacc6, ?_, ?_, F6.trans (F2.r Frm.of_upd), (lk6.frm (x := D) Frm.of_upd (Ne.symm hDa) (Ne.symm hDl)).imp eP⟩
        · unfold nV
          rw [List.length_map]
          exact Nat.lt_of_le_of_lt (Nat.le_trans (List.length_filter_le _ _) (show (L.take i).length ≤ 16 by rw [List.length_take]; omega)) (by decide)
        · rw [upd_same, List.take_add_one, hx, List.filter_append]
          simp [em, nV]
      | false =>
        rw [hm] at em
        refine ⟨false, rfl, iteF ?_⟩
        refine ⟨?_, F6, lk6.imp eP⟩
        rw [hacc6, List.take_add_one, hx, List.filter_append]
        simp [em]
    · obtain ⟨hacc, f4, lk4⟩ := h
      unfold nV at hacc lk4
      rw [List.length_map, List.take_length] at hacc lk4
      have eL : L.filter (meetS G sl b) = lookL G sl b but := by
        rw [hL, List.filter_filter, lookL, ← hcs]
        refine List.filter_congr fun s _ => ?_
        cases but.contains s <;> cases near G sl cs s <;> cases meetS G sl b s <;> rfl
      rw [eL] at hacc
      refine ⟨D, _, rfl, .inl ⟨SqL.of hacc, fun tr ntr => ?_⟩⟩
      have st := new_same (o := .tup (nV (lookL G sl b but))) ntr
      have FF : Frm ld H4 (upd H4 tr (.tup (nV (lookL G sl b but)))) := Frm.of_same st
      refine k tr _ (fun c ob n z => ?_) ((lk4.same st).imp fun c => ?_) (SqT.of upd_same)
      · have z1 := S1 _ _ z
        have cn : c ≠ nd := fun e => by rw [e, nnd] at z; cases z
        have z3 := F3 c ob n cn z1
        exact FF c ob n (f4 c ob n (ne_of_none z3 hD) z3)
      · unfold seenP
        rw [← hcs, or_assoc]
        refine or_congr_right (or_congr_right ?_)
        constructor
        · rintro ⟨s, h1, h2⟩
          obtain ⟨g1, g2, g3⟩ := (hLm s).mp h2
          exact ⟨s, h1, g1, g2, g3⟩
        · rintro ⟨s, h1, h2, h3, h4⟩
          exact ⟨s, h1, (hLm s).mpr ⟨h2, h3, h4⟩⟩
end
end K22
set_option maxRecDepth 100000
set_option maxHeartbeats 4000000
/-! What bars: the program. -/
namespace K22
open PySem PySem.Spec PyProof.Rows L2 KF KD KP
def hsS (G : Gm) (sl : List (Option Tg)) (n : Str) (s : Nat) : Bool := match sl[s]? with
  | some (some t) => G.hs t n
  | _ => false
def barL (G : Gm) (sl : List (Option Tg)) (b : Bx) (but : List Nat) : List Nat := (lookL G sl b but).filter (hsS G sl "bars")
theorem hsS_at {G : Gm} {sl : List (Option Tg)} {n : Str} {s : Nat} {t : Tg} {kd : Kd} (h : sl[s]? = some (some t)) (hk : G.kds[t.k]? = some kd) : hsS G sl n s = kd.has n := by
  unfold hsS Gm.hs
  rw [h]
  dsimp only
  rw [hk]
theorem look_mem {G : Gm} {sl : List (Option Tg)} {b : Bx} {but : List Nat} {s : Nat} (h : s ∈ lookL G sl b but) : s < 16 ∧ s ∉ but ∧ near G sl (G.blk b) s = true := by
  rw [lookL, List.mem_filter, List.mem_range, Bool.and_eq_true, Bool.and_eq_true] at h
  obtain ⟨h1, h2, h3, _⟩ := h
  exact ⟨h1, by simpa using h2, h3⟩
theorem look_len (G : Gm) (sl : List (Option Tg)) (b : Bx) (but : List Nat) : (lookL G sl b but).length ≤ 16 := Nat.le_trans (List.length_filter_le _ _) (by rw [List.length_range]; exact Nat.le_refl _)
theorem look_nd (G : Gm) (sl : List (Option Tg)) (b : Bx) (but : List Nat) : (lookL G sl b but).Nodup := List.Pairwise.filter _ List.nodup_range
theorem seen_in {G : Gm} {sl : List (Option Tg)} {b : Bx} {but : List Nat} {p : Int → Prop} {s : Nat} (h : s ∈ lookL G sl b but) : seenP G sl b but p (s : Int) := by
  obtain ⟨h1, h2, h3⟩ := look_mem h
  exact .inr (.inr ⟨s, rfl, h1, h2, h3⟩)
theorem or_eq {p : Int → Prop} {s : Int} (h : p s) (c : Int) : (p c ∨ c = s) ↔ p c := ⟨fun z => z.elim id (fun e => by rw [e]; exact h), .inl⟩
section
variable {P : Program} {w : World} {K : PySem.W.Frag} {mg : Str → Option Value} {base : Heap}
def spBarring (K : PySem.W.Frag) : Sp := fun vs H Q _ => ∃ (g u : V) (a wt ld bu : Addr) (wv : List V) (G : Gm) (sl : List (Option Tg)) (b : Bx) (but : List Nat) (p : Int → Prop), vs = [g, .ref a, u, .ref bu] ∧ GmAt K H g G ∧ G.ok ∧ SlAll G sl ∧ LkAt K H a wt ld p ∧ WtAt K H wt wv G sl ∧ BxAt K H u b ∧ b.lim ∧ SqT K H bu (nV but) ∧
  ∀ t H', Frm ld H H' → LkAt K H' a wt ld (seenP G sl b but p) → H' t = some (.lst (nV (barL G sl b but))) → H t = none → Q (.ref t) H'
theorem scBg : FnScope ["game", "looks", "box", "but", "slot"] ["game", "looks", "box", "but"] (defScope s_barring) := ⟨rfl, rfl, rfl, by decide +kernel, rfl, by decide +kernel, by decide +kernel⟩
theorem ok_barring (T : Txt K w mg) : FnOk P w K mg base CX0 5 (He.fAd K ("_barring", none)) (fdAt K (He.fAd K ("_barring", none))) ["game", "looks", "box", "but"] (spBarring K) := by
  refine T.F_barring.ok scBg (fun vs H Q E h => ?_) (fun cdv A outer s H vs Q E hr h => ?_)
  · obtain ⟨g, u, a, wt, ld, bu, wv, G, sl, b, but, p, rfl, _⟩ := h
    rfl
  · obtain ⟨g, u, a, wt, ld, bu, wv, G, sl, b, but, p, rfl, hg, o, sa, lk, hw, hb, lim, hbu, k⟩ := h
    refine ⟨_, PSs.nox (pss_one (ps_ret (pe_lc (own := [("slot", 4)]) (g := gName 4) (by rfl) scBg.nd (pi_tup (pe_call (ok_meeting T) (hr.mono (by first | decide | omega)) (by rfl) T.g_meeting (T.F_meeting).kp T.b_meeting .nil pass0 (pa_cons (pv 0) (pa_cons (pv 1) (pa_cons (pv 2) (pa_cons (pv 3) pa_nil)))))) (blkOk_by (own := [("slot", 4)]) (N := ["game", "looks", "box", "but", "slot"]) (sc := defScope s_barring) (by decide +kernel)) (fun _ _ _ _ _ => pg_name (i := 4) scBg.nd rfl (Or.inl rfl)) (fun _ _ _ _ _ => pts_one (pt_val (pe_call (ok_has_trait T) (hr.mono (by first | decide | omega)) (by rfl) T.g_has_trait (T.F_has_trait).kp T.b_has_trait .nil pass0 (pa_cons (pv 0) (pa_cons (pe_meth (pv 1) T.k_Looks T.e_Looks_at (ok_Looks_at T) (hr.mono (by first | decide | omega)) T.b_Looks_at .nil pass0 (pa_cons (pv 4) pa_nil)) (pa_cons pe_str pa_nil)))))) (fun _ _ _ _ _ => (pv 4))))), ?_⟩
    obtain ⟨dx, ha, ks⟩ := id lk
    obtain ⟨kvs0, hk0⟩ := ks.dict
    refine ⟨_, rfl, _, rfl, _, rfl, _, rfl, g, u, a, wt, ld, bu, wv, G, sl, b, but, p, rfl, hg, o, sa, lk, hw, hb, lim, hbu, fun q H1 f1 lk1 hq => ⟨q, rfl, ⟨_, hq⟩, fun D hD => ?_⟩⟩
    have tf1 := lk.tf f1
    have hw1 := hw.tf tf1
    have hg1 := hg.tf tf1
    obtain ⟨dx1, ha1, ks1⟩ := id lk1
    obtain ⟨kvs1, hk1⟩ := ks1.dict
    have hDl : D ≠ ld := (ne_of_none hk1 hD).symm
    have hDa : D ≠ a := (ne_of_none ha1 hD).symm
    obtain ⟨L, hL⟩ : ∃ L, L = lookL G sl b but := ⟨_, rfl⟩
    have hLl : L.length ≤ 16 := by rw [hL]; exact look_len G sl b but
    have hLm : ∀ s ∈ L, s ∈ lookL G sl b but := fun s h => by rw [← hL]; exact h
    rw [← hL] at hq
    refine lc_it (walk_tup (K := K) (a := q) (xs := nV L)) (fun i H' => H' D = some (.lst (nV ((L.take i).filter (hsS G sl "bars")))) ∧ F2 ld D H1 H' ∧ LkAt K H' a wt ld (seenP G sl b but p)) ⟨upd_same, F2.r Frm.of_upd, lk1.frm (x := D) Frm.of_upd (Ne.symm hDa) (Ne.symm hDl)⟩ (fun i H' _ h => (F2.tfn h.2.1 hk1 hD).sq hq) (fun i v Hx H4 hi h yy => ?_) (fun H4 h => ?_)
    · obtain ⟨hacc, f4, lk4⟩ := h
      obtain ⟨rfl, hv⟩ := yy
      unfold nV at hi hv
      rw [List.length_map] at hi
      have hx := List.getElem?_eq_getElem hi
      obtain ⟨s, hs⟩ : ∃ s, s = L[i] := ⟨_, rfl⟩
      rw [← hs] at hx
      rw [List.getElem?_map, hx] at hv
      cases hv
      have hsL := hLm s (List.mem_of_getElem? hx)
      obtain ⟨s16, snb, snr⟩ := look_mem hsL
      obtain ⟨t, hst⟩ := near_thing snr
      obtain ⟨kd, hkd, _⟩ := (sa.ok t (List.mem_of_getElem? hst)).kd
      have tf4 := F2.tfn f4 hk1 hD
      have hw4 := hw1.tf tf4
      obtain ⟨v, hv1, hv2⟩ := hw4.st s _ hst
      obtain ⟨dx4, ha4, _⟩ := id lk4
      refine ⟨rfl, ?_⟩
      refine ⟨_, rfl, _, rfl, a, dx4, _, rfl, ha4, rfl, _, rfl, a, wt, ld, wv, _, s, v, rfl, lk4, hw4.sq, hv1, .inl (by omega), fun H5 f5 lk5 => ?_⟩
      have tf5 := tf4.trans (lk4.tf f5)
      refine ⟨g, v, G, t, kd, "bars", rfl, hg1.tf tf5, SlAt.tf (o := some t) hv2 (lk4.tf f5), hkd, ?_⟩
      have hacc5 := f5 _ _ hDl hacc
      have F5 : F2 ld D H1 H5 := f4.trans (F2.l f5)
      have lk5' := lk5.imp (or_eq (seen_in hsL))
      have em := hsS_at (G := G) (sl := sl) (n := "bars") hst hkd
      cases hm : kd.has "bars" with
      | true =>
        rw [hm] at em
        refine ⟨true, rfl, iteT ?_⟩
        refine ⟨_, rfl, _, hacc5, ?_, ?_, F5.trans (F2.r Frm.of_upd), lk5'.frm (x := D) Frm.of_upd (Ne.symm hDa) (Ne.symm hDl)⟩
        · unfold nV
          rw [List.length_map]
          exact Nat.lt_of_le_of_lt (Nat.le_trans (List.length_filter_le _ _) (show (L.take i).length ≤ 16 by rw [List.length_take]; omega)) (by decide)
        · rw [upd_same, List.take_add_one, hx, List.filter_append]
          simp [em, nV]
      | false =>
        rw [hm] at em
        refine ⟨false, rfl, iteF ?_⟩
        refine ⟨?_, F5, lk5'⟩
        rw [hacc5, List.take_add_one, hx, List.filter_append]
        simp [em]
    · obtain ⟨hacc, f4, lk4⟩ := h
      unfold nV at hacc
      rw [List.length_map, List.take_length, hL] at hacc
      refine k D H4 (fun c ob n z => ?_) lk4 hacc ?_
      · have z1 := f1 c ob n z
        exact f4 c ob n (ne_of_none z1 hD) z1
      · cases e : H D with
        | none => rfl
        | some z => exact absurd ((f1 _ _ hDl e).symm.trans hD) (by simp)
end
end K22
set_option maxRecDepth 100000
set_option maxHeartbeats 4000000
/-! Lots: the program. -/
namespace KP
open PySem PySem.Spec PyProof.Rows L2
def rNiT (K : PySem.W.Frag) : R2 := fun x y H Q => ∃ d ds, Dp K H x d ∧ Dp K H y (.tuple ds) ∧ d.canLay0 = true ∧ PyData.canLayAll0 ds = true ∧ d.depth ≤ 60 ∧ Q (.bl (!ds.any fun z => PyData.eqv z d)) H
theorem op_niT {X : Cx} (hu : X.A.units + 64 < cLine) : OpR X (compareOp .NotIn) (rNiT X.K) := by
  intro pn st σ' H1 x y vx vy Q1 J rel1 rel2 asks
  obtain ⟨d, ds, h1, h2, c1, c2, dep, q⟩ := asks
  obtain ⟨as, r1⟩ := Dp.reads J d x vx h1 rel1
  obtain ⟨bs, r2⟩ := Dp.reads J (.tuple ds) y vy h2 rel2
  exact SeqAt.notIn_tuple_reads r2 r1 c2 c1 (by have := Nat.min_le_right (PyData.depthAll ds) d.depth; omega) ⟨.bl _, H1, J, rfl, q⟩
end KP
namespace K22
open PySem PySem.Spec PyProof.Rows L2 KF KD KP
def alongS (G : Gm) (sl : List (Option Tg)) (dy : Int) (s : Nat) : Bool := hsS G sl "pushed" s || (decide (dy < 0) && hsS G sl "falls" s)
def bxS (G : Gm) (sl : List (Option Tg)) (s : Nat) : Bx := match sl[s]? with
  | some (some t) => G.bx t
  | _ => ⟨0, 0, 1, 1⟩
theorem bxS_at {G : Gm} {sl : List (Option Tg)} {s : Nat} {t : Tg} {kd : Kd} (h : sl[s]? = some (some t)) (hk : G.kds[t.k]? = some kd) : bxS G sl s = t.box kd := by
  unfold bxS Gm.bx
  rw [h]
  dsimp only
  rw [hk]
/-- what joins for one of a lot -/
def joinF (G : Gm) (sl : List (Option Tg)) (dx dy : Int) (going : List Nat) (s : Nat) : Option (List Nat) :=
  if G.stp (bxS G sl s) dx dy = true then none else if hsS G sl "bars" s = true then
    (if ((barL G sl ((bxS G sl s).mv dx dy) going).all (alongS G sl dy)) = true then some (barL G sl ((bxS G sl s).mv dx dy) going) else none) else some []
def joinP (G : Gm) (sl : List (Option Tg)) (dx dy : Int) (going : List Nat) (s : Nat) (p : Int → Prop) : Int → Prop :=
  if G.stp (bxS G sl s) dx dy = true then p else if hsS G sl "bars" s = true then seenP G sl ((bxS G sl s).mv dx dy) going p else p
theorem seen_up {G : Gm} {sl : List (Option Tg)} {b : Bx} {but : List Nat} {p : Int → Prop} {c : Int} (h : p c) : seenP G sl b but p c := .inl h
theorem join_up {G : Gm} {sl : List (Option Tg)} {dx dy : Int} {going : List Nat} {s : Nat} {p : Int → Prop} {c : Int} (h : p c) : joinP G sl dx dy going s p c := by
  unfold joinP
  split
  · exact h
  · split
    · exact seen_up h
    · exact h
section
variable {P : Program} {w : World} {K : PySem.W.Frag} {mg : Str → Option Value} {base : Heap}
def spGa (K : PySem.W.Frag) : Sp := fun vs H Q _ => ∃ (g v : V) (G : Gm) (sl : List (Option Tg)) (s : Nat) (t : Tg) (dy : Int), vs = [g, v, .int dy] ∧ GmAt K H g G ∧ SlAll G sl ∧ sl[s]? = some (some t) ∧ TgAt K H v t ∧ ∀ H', Same H H' → Q (.bl (alongS G sl dy s)) H'
theorem scGa : FnScope ["game", "thing", "dy"] ["game", "thing", "dy"] (defScope s_goes_along) := ⟨rfl, rfl, rfl, by decide +kernel, rfl, by decide +kernel, by decide +kernel⟩
theorem ok_goes_along (T : Txt K w mg) : FnOk P w K mg base CX0 2 (He.fAd K ("_goes_along", none)) (fdAt K (He.fAd K ("_goes_along", none))) ["game", "thing", "dy"] (spGa K) := by
  refine T.F_goes_along.ok scGa (fun vs H Q E h => ?_) (fun cdv A outer s H vs Q E hr h => ?_)
  · obtain ⟨g, v, G, sl, s, t, dy, rfl, _⟩ := h
    rfl
  · obtain ⟨g, v, G, sl, s, t, dy, rfl, hg, sa, hst, ht, k⟩ := h
    refine ⟨_, PSs.nox (pss_one (ps_ret (pe_or (pe_call (ok_has_trait T) (hr.mono (by first | decide | omega)) (by rfl) T.g_has_trait (T.F_has_trait).kp T.b_has_trait .nil pass0 (pa_cons (pv 0) (pa_cons (pv 1) (pa_cons pe_str pa_nil)))) (pe_one (pe_and (pe_cmpR op_lt (pv 2) pe_int (nomark _)) (pe_one (pe_call (ok_has_trait T) (hr.mono (by first | decide | omega)) (by rfl) T.g_has_trait (T.F_has_trait).kp T.b_has_trait .nil pass0 (pa_cons (pv 0) (pa_cons (pv 1) (pa_cons pe_str pa_nil)))))))))), ?_⟩
    obtain ⟨kd, hkd, _⟩ := (sa.ok t (List.mem_of_getElem? hst)).kd
    have e1 := hsS_at (G := G) (sl := sl) (n := "pushed") hst hkd
    have e2 := hsS_at (G := G) (sl := sl) (n := "falls") hst hkd
    have e : alongS G sl dy s = (kd.has "pushed" || (decide (dy < 0) && kd.has "falls")) := by rw [alongS, e1, e2]
    rw [e] at k
    refine ⟨_, rfl, _, rfl, g, v, G, t, kd, "pushed", rfl, hg, ht, hkd, ?_⟩
    cases hp : kd.has "pushed" with
    | true =>
      rw [hp] at k
      exact ⟨true, rfl, iteT (k H (Same.refl _))⟩
    | false =>
      rw [hp, Bool.false_or] at k
      refine ⟨false, rfl, iteF ?_⟩
      refine ⟨_, rfl, _, _, rfl, rfl, _, rfl, ite2 (fun z => ?_) (fun z => ?_)⟩
      · rw [z, Bool.true_and] at k
        exact ⟨_, rfl, _, rfl, g, v, G, t, kd, "falls", rfl, hg, ht, hkd, k H (Same.refl _)⟩
      · have z : decide (dy < 0) = false := by
          cases h : decide (dy < 0) with
          | true => exact absurd h z
          | false => rfl
        rw [z, Bool.false_and] at k
        exact k H (Same.refl _)
def spTi (K : PySem.W.Frag) : Sp := fun vs H Q _ => ∃ (a wt ld : Addr) (wv : List V) (G : Gm) (sl : List (Option Tg)) (s : Nat) (t : Tg) (p : Int → Prop), vs = [.ref a, .int (s : Int)] ∧ s < 16 ∧ sl[s]? = some (some t) ∧ LkAt K H a wt ld p ∧ WtAt K H wt wv G sl ∧ ∀ v H', Frm ld H H' → LkAt K H' a wt ld (fun c => p c ∨ c = (s : Int)) → TgAt K H' v t → Q v H'
theorem scTi : FnScope ["looks", "slot", "thing"] ["looks", "slot"] (defScope s_thing_in) := ⟨rfl, rfl, rfl, by decide +kernel, rfl, by decide +kernel, by decide +kernel⟩
theorem ok_thing_in (T : Txt K w mg) : FnOk P w K mg base CX0 4 (He.fAd K ("_thing_in", none)) (fdAt K (He.fAd K ("_thing_in", none))) ["looks", "slot"] (spTi K) := by
  obtain ⟨u1, g1, r1⟩ := T.c_SLOTS
  refine T.F_thing_in.ok scTi (fun vs H Q E h => ?_) (fun cdv A outer s H vs Q E hr h => ?_)
  · obtain ⟨a, wt, ld, wv, G, sl, s, t, p, rfl, _⟩ := h
    rfl
  · obtain ⟨a, wt, ld, wv, G, sl, s, t, p, rfl, s16, hst, lk, hw, k⟩ := h
    refine ⟨_, PSs.nox (pss_cons (ps_if (PW.pt (pw_or (pt_cmpR op_lt (pv 1) pe_int (nomark _)) (pw_or1 (pt_cmpR op_ge (pv 1) (pe_glob (v := .int 16) (by rfl) g1 r1) (nomark _))))) (pss_one ps_never) pss_nil)
      (pss_cons (ps_set (i := 2) scTi.nd rfl (Or.inl rfl) (pe_meth (pv 0) T.k_Looks T.e_Looks_at (ok_Looks_at T) (hr.mono (by first | decide | omega)) T.b_Looks_at .nil pass0 (pa_cons (pv 1) pa_nil)))
      (pss_cons (ps_if (pt_cmpR op_isN (pv 2) pe_non (nomark _)) (pss_one ps_never) pss_nil)
      (pss_one (ps_ret (pv 2)))))), ?_⟩
    obtain ⟨v, hv1, hv2⟩ := hw.st s _ hst
    obtain ⟨dx, ha, _⟩ := id lk
    refine ⟨_, rfl, _, _, rfl, rfl, _, rfl, ite2 (fun z => absurd (of_decide_eq_true z) (by omega)) (fun _ => ?_)⟩
    refine ⟨_, rfl, _, _, rfl, rfl, _, rfl, ite2 (fun z => absurd (of_decide_eq_true z) (by omega)) (fun _ => ?_)⟩
    refine ⟨_, rfl, a, dx, _, rfl, ha, rfl, _, rfl, a, wt, ld, wv, p, s, v, rfl, lk, hw.sq, hv1, .inl (by omega), fun H1 f1 lk1 => ?_⟩
    have ht : TgAt K H1 v t := SlAt.tf (o := some t) hv2 (lk.tf f1)
    obtain ⟨ta, ow, rfl, _⟩ := id ht
    exact ⟨_, rfl, rfl, _, rfl, ite2 (fun z => nomatch of_decide_eq_true z) (fun _ => ⟨_, rfl, k _ H1 f1 lk1 ht⟩)⟩
def spJn (K : PySem.W.Frag) : Sp := fun vs H Q _ => ∃ (g : V) (a wt ld go : Addr) (wv : List V) (G : Gm) (sl : List (Option Tg)) (going : List Nat) (s : Nat) (t : Tg) (dx dy : Int) (p : Int → Prop), vs = [g, .ref a, .ref go, .int (s : Int), .int dx, .int dy] ∧ (dx, dy) ∈ dirs ∧ GmAt K H g G ∧ G.ok ∧ SlAll G sl ∧ H go = some (.lst (nV going)) ∧ s < 16 ∧ sl[s]? = some (some t) ∧ p (s : Int) ∧ LkAt K H a wt ld p ∧ WtAt K H wt wv G sl ∧
  (joinF G sl dx dy going s = none → ∀ H', Frm ld H H' → LkAt K H' a wt ld (joinP G sl dx dy going s p) → Q .non H') ∧
  (∀ j, joinF G sl dx dy going s = some j → ∀ q H', Frm ld H H' → LkAt K H' a wt ld (joinP G sl dx dy going s p) → H' q = some (.lst (nV j)) → H q = none → Q (.ref q) H')
theorem scJn : FnScope ["game", "looks", "going", "slot", "dx", "dy", "thing", "box", "joining", "other"] ["game", "looks", "going", "slot", "dx", "dy"] (defScope s_joining) := ⟨rfl, rfl, rfl, by decide +kernel, rfl, by decide +kernel, by decide +kernel⟩
theorem ok_joining (T : Txt K w mg) : FnOk P w K mg base CX0 6 (He.fAd K ("_joining", none)) (fdAt K (He.fAd K ("_joining", none))) ["game", "looks", "going", "slot", "dx", "dy"] (spJn K) := by
  refine T.F_joining.ok scJn (fun vs H Q E h => ?_) (fun cdv A outer s H vs Q E hr h => ?_)
  · obtain ⟨g, a, wt, ld, go, wv, G, sl, going, s, t, dx, dy, p, rfl, _⟩ := h
    rfl
  · obtain ⟨g, a, wt, ld, go, wv, G, sl, going, s, t, dx, dy, p, rfl, hd, hg, o, sa, hgo, s16, hst, ps, lk, hw, k1, k2⟩ := h
    refine ⟨_, PSs.nox (pss_cons (ps_set (i := 6) scJn.nd rfl (Or.inl rfl) (pe_meth (pv 1) T.k_Looks T.e_Looks_at (ok_Looks_at T) (hr.mono (by first | decide | omega)) T.b_Looks_at .nil pass0 (pa_cons (pv 3) pa_nil)))
      (pss_cons (ps_set (i := 7) scJn.nd rfl (Or.inl rfl) (pe_call (ok_body_box T) (hr.mono (by first | decide | omega)) (by rfl) T.g_body_box (T.F_body_box).kp T.b_body_box .nil pass0 (pa_cons (pv 0) (pa_cons (pv 6) pa_nil))))
      (pss_cons (ps_if (pt_val (pe_call (ok_is_barred T) (hr.mono (by first | decide | omega)) (by rfl) T.g_is_barred (T.F_is_barred).kp T.b_is_barred .nil pass0 (pa_cons (pe_ix (r := rIxT K) ix_tup (pv 0) pe_int (fun _ _ => rfl)) (pa_cons (pv 7) (pa_cons (pv 4) (pa_cons (pv 5) pa_nil)))))) (pss_one (ps_ret pe_non)) pss_nil)
      (pss_cons (ps_if (pt_not (pt_val (pe_call (ok_has_trait T) (hr.mono (by first | decide | omega)) (by rfl) T.g_has_trait (T.F_has_trait).kp T.b_has_trait .nil pass0 (pa_cons (pv 0) (pa_cons (pv 6) (pa_cons pe_str pa_nil)))))) (pss_one (ps_ret (pe_lst pa_nil))) pss_nil)
      (pss_cons (ps_set (i := 8) scJn.nd rfl (Or.inl rfl) (pe_call (ok_barring T) (hr.mono (by first | decide | omega)) (by rfl) T.g_barring (T.F_barring).kp T.b_barring .nil pass0 (pa_cons (pv 0) (pa_cons (pv 1) (pa_cons (pe_call (ok_moved T) (hr.mono (by first | decide | omega)) (by rfl) T.g_moved (T.F_moved).kp T.b_moved .nil pass0 (pa_cons (pv 7) (pa_cons (pv 4) (pa_cons (pv 5) pa_nil)))) (pa_cons (pe_callTy call_tuple_of (by rfl) T.n_tuple PyProof.Rows.Boot.«tuple» (pa_cons (pv 2) pa_nil)) pa_nil))))))
      (pss_cons (ps_for PassesOwn.never rfl (pi_list (pv 8)) (pg_name (i := 9) scJn.nd rfl (Or.inl rfl)) (pss_one (ps_if (pt_not (pt_val (pe_call (ok_goes_along T) (hr.mono (by first | decide | omega)) (by rfl) T.g_goes_along (T.F_goes_along).kp T.b_goes_along .nil pass0 (pa_cons (pv 0) (pa_cons (pe_meth (pv 1) T.k_Looks T.e_Looks_at (ok_Looks_at T) (hr.mono (by first | decide | omega)) T.b_Looks_at .nil pass0 (pa_cons (pv 9) pa_nil)) (pa_cons (pv 5) pa_nil)))))) (pss_one (ps_ret pe_non)) pss_nil)))
      (pss_one (ps_ret (pv 8))))))))), ?_⟩
    obtain ⟨kd, hkd, _⟩ := (sa.ok t (List.mem_of_getElem? hst)).kd
    obtain ⟨lim, limd, yh⟩ := (sa.ok t (List.mem_of_getElem? hst)).lim o
    have ebx : G.bx t = t.box kd := by unfold Gm.bx; rw [hkd]
    rw [ebx] at lim limd yh
    have eb := bxS_at (G := G) (sl := sl) hst hkd
    have eh := hsS_at (G := G) (sl := sl) (n := "bars") hst hkd
    have hdd : -1 ≤ dx ∧ dx ≤ 1 ∧ -1 ≤ dy ∧ dy ≤ 1 := by
      simp only [dirs, List.mem_cons, List.not_mem_nil, or_false, Prod.mk.injEq] at hd
      omega
    obtain ⟨v, hv1, hv2⟩ := hw.st s _ hst
    obtain ⟨dx0, ha, ks0⟩ := id lk
    obtain ⟨kvs0, hk0⟩ := ks0.dict
    have hgl : go ≠ ld := fun e => by rw [e, hk0] at hgo; cases hgo
    refine ⟨_, rfl, a, dx0, _, rfl, ha, rfl, _, rfl, a, wt, ld, wv, p, s, v, rfl, lk, hw.sq, hv1, .inl (by omega), fun H1 f1 lk1 => ?_⟩
    have lk1 := lk1.imp (or_eq ps)
    have tf1 := lk.tf f1
    have hg1 := hg.tf tf1
    have ht1 : TgAt K H1 v t := SlAt.tf (o := some t) hv2 tf1
    have hw1 := hw.tf tf1
    have hgo1 := f1 _ _ hgl hgo
    refine ⟨_, rfl, _, rfl, g, v, G, t, kd, rfl, hg1, ht1, hkd, fun pb H2 s2 hpb => ?_⟩
    have tf2 := tf1.trans (same_tf s2)
    have hb2 : BxAt K H2 (.ref pb) (t.box kd) := ⟨pb, rfl, SqT.of hpb⟩
    obtain ⟨ga, lv, ksv, rfl, sg, hlv, hks⟩ := hg.tf tf2
    refine ⟨_, rfl, ga, _, _, _, rfl, rfl, sg, atI_nat (j := 0) rfl, _, rfl, _, rfl, _, rfl, lv, .ref pb, G, t.box kd, dx, dy, rfl, hd, hlv, o, hb2, lim, limd dx dy hdd.1 hdd.2.1 hdd.2.2.1 hdd.2.2.2, yh, fun H3 s3 => ?_⟩
    have S3 := s2.trans s3
    have F3 : Frm ld H H3 := f1.trans (Frm.of_same S3)
    have lk3 := lk1.same S3
    have tf3 := tf1.trans (same_tf S3)
    cases hstp : G.stp (t.box kd) dx dy with
    | true =>
      refine ⟨true, rfl, iteT (k1 ?_ H3 F3 ?_)⟩
      · rw [joinF, eb, hstp]
        rfl
      · rw [joinP, eb, hstp]
        exact lk3
    | false =>
      refine ⟨false, rfl, iteF ?_⟩
      have hg3 := GmAt.tf hg tf3
      have ht3 := TgAt.tf ht1 (same_tf S3)
      refine ⟨_, rfl, _, rfl, _, v, G, t, kd, "bars", rfl, hg3, ht3, hkd, ?_⟩
      cases hbr : kd.has "bars" with
      | false =>
        refine ⟨_, rfl, iteT ?_⟩
        dsimp only [tRet, tLst, tNil]
        refine ⟨Nat.zero_le _, fun q nq => ?_⟩
        refine k2 [] ?_ q _ (F3.trans (Frm.of_same (new_same nq))) ?_ upd_same ?_
        · rw [joinF, eb, hstp, eh, hbr]
          rfl
        · rw [joinP, eb, hstp, eh, hbr]
          exact lk3.same (new_same nq)
        · cases e : H q with
          | none => rfl
          | some z => exact absurd ((F3 _ _ (fun c => by rw [c] at nq; obtain ⟨_, z⟩ := lk3.choose_spec.2.dict; rw [z] at nq; cases nq) e).symm.trans nq) (by simp)
      | true =>
        have ej : joinF G sl dx dy going s = if ((barL G sl ((t.box kd).mv dx dy) going).all (alongS G sl dy)) = true then some (barL G sl ((t.box kd).mv dx dy) going) else none := by
          rw [joinF, eb, hstp, eh, hbr]
          rfl
        have ep : joinP G sl dx dy going s p = seenP G sl ((t.box kd).mv dx dy) going p := by
          rw [joinP, eb, hstp, eh, hbr]
          rfl
        refine ⟨_, rfl, iteF ?_⟩
        refine ⟨_, rfl, _, rfl, _, rfl, _, rfl, _, rfl, .ref pb, t.box kd, dx, dy, rfl, hb2.tf (same_tf s3), fun pm H4 s4 hpm => ?_⟩
        have S4 := S3.trans s4
        have hgo4 := s4 _ _ (s3 _ _ (s2 _ _ hgo1))
        refine ⟨_, rfl, go, _, rfl, .inl ⟨SqL.of hgo4, fun pt npt => ?_⟩⟩
        have S5 := S4.trans (new_same (o := .tup (nV going)) npt)
        have tf5 := tf1.trans (same_tf S5)
        have hb5 : BxAt K (upd H4 pt (.tup (nV going))) (.ref pm) ((t.box kd).mv dx dy) := ⟨pm, rfl, SqT.of (new_same npt _ _ hpm)⟩
        refine ⟨_, .ref pm, a, wt, ld, pt, wv, G, sl, (t.box kd).mv dx dy, going, p, rfl, hg.tf tf5, o, sa, lk1.same S5, hw.tf tf5, hb5, limd dx dy hdd.1 hdd.2.1 hdd.2.2.1 hdd.2.2.2, SqT.of upd_same, fun q H6 f6 lk6 hq nq => ?_⟩
        have F6 : Frm ld H H6 := (f1.trans (Frm.of_same S5)).trans f6
        rw [← ep] at lk6
        obtain ⟨B, hB⟩ : ∃ B, B = barL G sl ((t.box kd).mv dx dy) going := ⟨_, rfl⟩
        have hBl : ∀ s ∈ B, s ∈ lookL G sl ((t.box kd).mv dx dy) going ∧ s < 16 := fun s hs => by
          rw [hB, barL, List.mem_filter] at hs
          exact ⟨hs.1, (look_mem hs.1).1⟩
        rw [← hB] at hq ej
        have hql : q ≠ ld := fun e => by
          obtain ⟨_, h1, h2⟩ := lk6
          obtain ⟨_, h2⟩ := h2.dict
          rw [e, h2] at hq
          cases hq
        have hqn : H q = none := by
          cases e : H q with
          | none => rfl
          | some z => exact absurd (((f1.trans (Frm.of_same S5)) _ _ hql e).symm.trans nq) (by simp)
        refine ⟨_, rfl, q, rfl, ⟨_, SqL.of hq⟩, ?_⟩
        refine L2.for_it (walk_list (K := K) (a := q) (xs := nV B)) (fun i σ H' => ∃ v9 : Option V, σ = [some (.ref ga), some (.ref a), some (.ref go), some (.int (s : Int)), some (.int dx), some (.int dy), some v, some (.ref pb), some (.ref q), v9] ∧ Frm ld H6 H' ∧ LkAt K H' a wt ld (joinP G sl dx dy going s p) ∧ (B.take i).all (alongS G sl dy) = true) ⟨_, rfl, Frm.refl _ _, lk6, by rw [List.take_zero]; rfl⟩ (fun i σ H' _ h => by obtain ⟨_, _, f, _⟩ := h; exact SqL.of (f _ _ hql hq)) (fun i x σ H7 Hx hi hPv hy => ?_) (fun σ H7 hPv => ?_)
        · obtain ⟨v9, rfl, f7, lk7, al⟩ := hPv
          obtain ⟨rfl, hx⟩ := hy
          unfold nV at hi hx
          rw [List.length_map] at hi
          have hsi := List.getElem?_eq_getElem hi
          obtain ⟨u, hu⟩ : ∃ u, u = B[i] := ⟨_, rfl⟩
          rw [← hu] at hsi
          rw [List.getElem?_map, hsi] at hx
          cases hx
          obtain ⟨uL, u16⟩ := hBl u (List.mem_of_getElem? hsi)
          obtain ⟨tu, hsu⟩ := near_thing (look_mem uL).2.2
          have tf7 : TF H Hx := lk.tf (F6.trans f7)
          obtain ⟨vu, hv1u, hv2u⟩ := (hw.tf tf7).st u _ hsu
          obtain ⟨dx7, ha7, _⟩ := id lk7
          refine ⟨_, rfl, _, rfl, a, dx7, _, rfl, ha7, rfl, _, rfl, a, wt, ld, wv, _, u, vu, rfl, lk7, (hw.tf tf7).sq, hv1u, .inl (by omega), fun H8 f8 lk8 => ⟨_, rfl, ?_⟩⟩
          have lk8 := lk8.imp (or_eq (by rw [ep]; exact seen_in uL))
          have tf8 := tf7.trans (lk7.tf f8)
          refine ⟨_, vu, G, sl, u, tu, dy, rfl, hg.tf tf8, sa, hsu, SlAt.tf (o := some tu) hv2u (lk7.tf f8), fun H9 s9 => ?_⟩
          have F9 : Frm ld H6 H9 := (f7.trans f8).trans (Frm.of_same s9)
          cases hal : alongS G sl dy u with
          | true =>
            refine ⟨_, rfl, iteF ?_⟩
            refine ⟨_, rfl, F9, lk8.same s9, ?_⟩
            rw [List.take_add_one, hsi, List.all_append, al]
            simp [hal]
          | false =>
            refine ⟨_, rfl, iteT (k1 ?_ H9 (F6.trans F9) (lk8.same s9))⟩
            rw [ej]
            have e : B.all (alongS G sl dy) = false := by
              cases e : B.all (alongS G sl dy) with
              | false => rfl
              | true => exact absurd ((List.all_eq_true.mp e u (List.mem_of_getElem? hsi)).symm.trans hal) (by decide)
            rw [e]
            rfl
        · obtain ⟨v9, rfl, f7, lk7, al⟩ := hPv
          unfold nV at al
          rw [List.length_map, List.take_length] at al
          rw [al] at ej
          exact ⟨_, rfl, k2 B ej q H7 (F6.trans f7) lk7 (f7 _ _ hql hq) hqn⟩

/-! ### the whole lot -/
def seenS (G : Gm) (sl : List (Option Tg)) (b : Bx) (but : List Nat) (c : Int) : Prop := c ∈ G.blk b ∨ ∃ s : Nat, c = (s : Int) ∧ s < 16 ∧ s ∉ but ∧ near G sl (G.blk b) s = true
def joinS (G : Gm) (sl : List (Option Tg)) (dx dy : Int) (going : List Nat) (s : Nat) (c : Int) : Prop :=
  G.stp (bxS G sl s) dx dy = false ∧ hsS G sl "bars" s = true ∧ seenS G sl ((bxS G sl s).mv dx dy) going c
theorem joinP_iff (G : Gm) (sl : List (Option Tg)) (dx dy : Int) (going : List Nat) (s : Nat) (p : Int → Prop) (c : Int) : joinP G sl dx dy going s p c ↔ p c ∨ joinS G sl dx dy going s c := by
  unfold joinP joinS
  cases h1 : G.stp (bxS G sl s) dx dy with
  | true => simp
  | false =>
    cases h2 : hsS G sl "bars" s with
    | true => simp [seenP, seenS]
    | false => simp
def lotG (G : Gm) (sl : List (Option Tg)) (dx dy : Int) : Nat → List Nat → Nat → Option (List Nat)
  | 0, going, _ => some going
  | n + 1, going, i => match going[i]? with
    | none => some going
    | some s => match joinF G sl dx dy going s with
      | none => none
      | some j => lotG G sl dx dy n (going ++ j) (i + 1)
def lotS (G : Gm) (sl : List (Option Tg)) (dx dy : Int) : Nat → List Nat → Nat → Int → Prop
  | 0, _, _, _ => False
  | n + 1, going, i, c => match going[i]? with
    | none => False
    | some s => joinS G sl dx dy going s c ∨ (match joinF G sl dx dy going s with
      | none => False
      | some j => lotS G sl dx dy n (going ++ j) (i + 1) c)
theorem lotG_end {G : Gm} {sl : List (Option Tg)} {dx dy : Int} {going : List Nat} {i : Nat} (h : going.length ≤ i) : ∀ n, lotG G sl dx dy n going i = some going
  | 0 => rfl
  | n + 1 => by rw [lotG, List.getElem?_eq_none h]
theorem lotS_end {G : Gm} {sl : List (Option Tg)} {dx dy : Int} {going : List Nat} {i : Nat} (h : going.length ≤ i) (c : Int) : ∀ n, lotS G sl dx dy n going i c ↔ False
  | 0 => Iff.rfl
  | n + 1 => by rw [lotS, List.getElem?_eq_none h]
theorem lotG_none {G : Gm} {sl : List (Option Tg)} {dx dy : Int} {going : List Nat} {i s n : Nat} (h : going[i]? = some s) (hj : joinF G sl dx dy going s = none) : lotG G sl dx dy (n + 1) going i = none := by
  rw [lotG, h]
  dsimp only
  rw [hj]
theorem lotG_some {G : Gm} {sl : List (Option Tg)} {dx dy : Int} {going j : List Nat} {i s n : Nat} (h : going[i]? = some s) (hj : joinF G sl dx dy going s = some j) : lotG G sl dx dy (n + 1) going i = lotG G sl dx dy n (going ++ j) (i + 1) := by
  rw [lotG, h]
  dsimp only
  rw [hj]
theorem lotS_none {G : Gm} {sl : List (Option Tg)} {dx dy : Int} {going : List Nat} {i s n : Nat} (h : going[i]? = some s) (hj : joinF G sl dx dy going s = none) (c : Int) : lotS G sl dx dy (n + 1) going i c ↔ joinS G sl dx dy going s c := by
  rw [lotS, h]
  dsimp only
  rw [hj]
  simp
theorem lotS_some {G : Gm} {sl : List (Option Tg)} {dx dy : Int} {going j : List Nat} {i s n : Nat} (h : going[i]? = some s) (hj : joinF G sl dx dy going s = some j) (c : Int) : lotS G sl dx dy (n + 1) going i c ↔ joinS G sl dx dy going s c ∨ lotS G sl dx dy n (going ++ j) (i + 1) c := by
  rw [lotS, h]
  dsimp only
  rw [hj]
/-- those that go -/
structure GoOk (sl : List (Option Tg)) (going : List Nat) (p : Int → Prop) : Prop where
  nd : going.Nodup
  th : ∀ s ∈ going, s < 16 ∧ ∃ t, sl[s]? = some (some t)
  se : ∀ s ∈ going, p (s : Int)
theorem nat_len {l : List Nat} (nd : l.Nodup) (h : ∀ s ∈ l, s < 16) : l.length ≤ 16 := by
  have h2 := nd_len (l.map fun n : Nat => (n : Int)) (rngI 0 16) (by
    rw [List.Nodup, List.pairwise_map]
    exact nd.imp fun h z => h (by omega)) fun c hc => by
      obtain ⟨s, hs, rfl⟩ := List.mem_map.mp hc
      have := h s hs
      rw [rngI_mem]
      omega
  rw [List.length_map] at h2
  have : (rngI 0 16).length = 16 := by decide
  omega
theorem GoOk.len {sl : List (Option Tg)} {going : List Nat} {p : Int → Prop} (h : GoOk sl going p) : going.length ≤ 16 := nat_len h.nd fun s hs => (h.th s hs).1
theorem joinF_eq {G : Gm} {sl : List (Option Tg)} {dx dy : Int} {going j : List Nat} {s : Nat} (h : joinF G sl dx dy going s = some j) : j = [] ∨ (j = barL G sl ((bxS G sl s).mv dx dy) going ∧ ∀ c, joinS G sl dx dy going s c ↔ seenS G sl ((bxS G sl s).mv dx dy) going c) := by
  unfold joinF at h
  cases h1 : G.stp (bxS G sl s) dx dy with
  | true =>
    rw [h1, if_pos rfl] at h
    cases h
  | false =>
    rw [h1, if_neg (by decide)] at h
    cases h2 : hsS G sl "bars" s with
    | false =>
      rw [h2, if_neg (by decide)] at h
      exact .inl (by injection h with h; exact h.symm)
    | true =>
      rw [h2, if_pos rfl] at h
      split at h
      · injection h with h
        refine .inr ⟨h.symm, fun c => ?_⟩
        unfold joinS
        rw [h1, h2]
        simp
      · cases h
theorem GoOk.step {G : Gm} {sl : List (Option Tg)} {dx dy : Int} {going j : List Nat} {s : Nat} {p : Int → Prop} (h : GoOk sl going p) (hj : joinF G sl dx dy going s = some j) : GoOk sl (going ++ j) (joinP G sl dx dy going s p) := by
  rcases joinF_eq hj with rfl | ⟨rfl, hs⟩
  · rw [List.append_nil]
    exact ⟨h.nd, h.th, fun s m => join_up (h.se s m)⟩
  · have hm : ∀ x ∈ barL G sl ((bxS G sl s).mv dx dy) going, x ∈ lookL G sl ((bxS G sl s).mv dx dy) going := fun x hx => by
      rw [barL, List.mem_filter] at hx
      exact hx.1
    refine ⟨?_, fun x hx => ?_, fun x hx => ?_⟩
    · rw [List.nodup_append]
      refine ⟨h.nd, List.Pairwise.filter _ (look_nd _ _ _ _), fun a ha b hb e => ?_⟩
      exact (look_mem (hm b hb)).2.1 (by rw [← e]; exact ha)
    · rcases List.mem_append.mp hx with hx | hx
      · exact h.th x hx
      · obtain ⟨h1, _, h3⟩ := look_mem (hm x hx)
        exact ⟨h1, near_thing h3⟩
    · rcases List.mem_append.mp hx with hx | hx
      · exact join_up (h.se x hx)
      · rw [joinP_iff, hs]
        obtain ⟨h1, h2, h3⟩ := look_mem (hm x hx)
        exact .inr (.inr ⟨x, rfl, h1, h2, h3⟩)
/-- what lot gives -/
def lotV : Option (List Nat) → List Nat
  | none => []
  | some g => (List.range 16).filter g.contains

def dirsD : List PyData := dirs.map fun d => .tuple [.int d.1, .int d.2]
theorem dirs_dp (T : Txt K w mg) (H : Hp) : Dp K H (.ref (He.ga K "DIRECTIONS")) (.tuple dirsD) := by
  obtain ⟨h1, h2⟩ := He.ba (show (_ && _) = true from T.ex)
  obtain ⟨t0, h2⟩ := He.ba h2
  obtain ⟨t1, h2⟩ := He.ba h2
  obtain ⟨t2, t3⟩ := He.ba h2
  have pr : ∀ {a : Addr} {x y : Int}, tupA K a [.int x, .int y] = true → Dp K H (.ref a) (.tuple [.int x, .int y]) := fun h => .tup (tupA_ok h H) (.cons (.int _) (.cons (.int _) .nil))
  refine .tup (xs := dirV K) (.inr ?_) (.cons (pr t0) (.cons (pr t1) (.cons (pr t2) (.cons (pr t3) .nil))))
  cases q : K.lookup (He.ga K "DIRECTIONS") with
  | none => rw [q] at h1; cases h1
  | some o =>
    rw [q] at h1
    obtain ⟨c, d, da, fr⟩ := o
    cases c with
    | type c =>
      cases da with
      | seq its n =>
        obtain ⟨e1, h1⟩ := He.ba (show (decide (c = "tuple") && (decide (its.size ≤ sizeLine) && He.relAll (dirV K) its.toList)) = true from h1)
        obtain ⟨e2, e3⟩ := He.ba h1
        exact ⟨_, its, n, rfl, congrArg Value.type (of_decide_eq_true e1), rfl, of_decide_eq_true e2, He.relAll_ok e3⟩
      | _ => cases h1
    | _ => cases h1
def plM (σ : L2.St) : Nat := match σ[6]? with
  | some (some (V.int i)) => (16 - i).toNat
  | _ => 0
def lotP (G : Gm) (sl : List (Option Tg)) (dx dy : Int) (s : Nat) (p : Int → Prop) (c : Int) : Prop := (p c ∨ c = (s : Int)) ∨ lotS G sl dx dy 16 [s] 0 c
def lotR (G : Gm) (sl : List (Option Tg)) (dx dy : Int) (s : Nat) : List Nat := lotV (lotG G sl dx dy 16 [s] 0)
theorem lotV_some {g : List Nat} {ns : List Int} {p : Int → Prop} {sl : List (Option Tg)} (h : GoOk sl g p) (hp : ns.Perm (g.map fun n : Nat => (n : Int))) (hs : ns.Pairwise (· ≤ ·)) : ns.map V.int = nV (lotV (some g)) := by
  have nd : (g.map fun n : Nat => (n : Int)).Nodup := by
    rw [List.Nodup, List.pairwise_map]
    exact h.nd.imp fun h z => h (by omega)
  have e : ns = (lotV (some g)).map fun n : Nat => (n : Int) := by
    refine srt_uniq _ _ (lt_of hs (hp.nodup_iff.mpr nd)) (range_lt 16 _) fun c => ?_
    rw [hp.mem_iff, List.mem_map, List.mem_map]
    constructor
    · rintro ⟨s, h1, rfl⟩
      refine ⟨s, ?_, rfl⟩
      rw [lotV, List.mem_filter, List.mem_range]
      exact ⟨(h.th s h1).1, by simpa using h1⟩
    · rintro ⟨s, h1, rfl⟩
      rw [lotV, List.mem_filter] at h1
      exact ⟨s, by simpa using h1.2, rfl⟩
  rw [e, List.map_map]
  rfl
def spLot (K : PySem.W.Frag) : Sp := fun vs H Q _ => ∃ (g : V) (a wt ld : Addr) (wv : List V) (G : Gm) (sl : List (Option Tg)) (s : Nat) (t : Tg) (dx dy : Int) (p : Int → Prop), vs = [g, .ref a, .int (s : Int), .int dx, .int dy] ∧ (dx, dy) ∈ dirs ∧ GmAt K H g G ∧ G.ok ∧ SlAll G sl ∧ s < 16 ∧ sl[s]? = some (some t) ∧ LkAt K H a wt ld p ∧ WtAt K H wt wv G sl ∧
  ∀ q H', Frm ld H H' → LkAt K H' a wt ld (lotP G sl dx dy s p) → SqT K H' q (nV (lotR G sl dx dy s)) → Q (.ref q) H'
theorem scLo : FnScope ["game", "looks", "slot", "dx", "dy", "going", "place", "joining"] ["game", "looks", "slot", "dx", "dy"] (defScope s_lot) := ⟨rfl, rfl, rfl, by decide +kernel, rfl, by decide +kernel, by decide +kernel⟩
theorem ok_lot (T : Txt K w mg) : FnOk P w K mg base CX0 7 (He.fAd K ("lot", none)) (fdAt K (He.fAd K ("lot", none))) ["game", "looks", "slot", "dx", "dy"] (spLot K) := by
  refine T.F_lot.ok scLo (fun vs H Q E h => ?_) (fun cdv A outer s H vs Q E hr h => ?_)
  · obtain ⟨g, a, wt, ld, wv, G, sl, s, t, dx, dy, p, rfl, _⟩ := h
    rfl
  · obtain ⟨g, a, wt, ld, wv, G, sl, s, t, dx, dy, p, rfl, hd, hg, o, sa, s16, hst, lk, hw, k⟩ := h
    refine ⟨_, PSs.nox (pss_cons (ps_expr (pe_call (ok_thing_in T) (hr.mono (by first | decide | omega)) (by rfl) T.g_thing_in (T.F_thing_in).kp T.b_thing_in .nil pass0 (pa_cons (pv 1) (pa_cons (pv 2) pa_nil))))
      (pss_cons (ps_if (pt_cmpR (KP.op_niT hr.units) (pe_tup (pa_cons (pv 3) (pa_cons (pv 4) pa_nil))) (pe_glob (v := .ref (He.ga K "DIRECTIONS")) (by rfl) T.g_DIRECTIONS rfl) rfl) (pss_one ps_never) pss_nil)
      (pss_cons (ps_set (i := 5) scLo.nd rfl (Or.inl rfl) (pe_lst (pa_cons (pv 2) pa_nil)))
      (pss_cons (ps_set (i := 6) scLo.nd rfl (Or.inl rfl) pe_int)
      (pss_cons (ps_while PassesOwn.never (pt_cmpR op_lt (pv 6) (pe_callB (r := Evl.rLenS K) call_len_seq (by rfl) T.n_len PyProof.Rows.Boot.«len» (pa_cons (pv 5) pa_nil)) (nomark _)) (pss_cons (ps_set (i := 7) scLo.nd rfl (Or.inl rfl) (pe_call (ok_joining T) (hr.mono (by first | decide | omega)) (by rfl) T.g_joining (T.F_joining).kp T.b_joining .nil pass0 (pa_cons (pv 0) (pa_cons (pv 1) (pa_cons (pv 5) (pa_cons (pe_ix (r := rIxL K) ix_list (pv 5) (pv 6) (fun _ _ => rfl)) (pa_cons (pv 3) (pa_cons (pv 4) pa_nil))))))))
      (pss_cons (ps_if (pt_cmpR op_isN (pv 7) pe_non (nomark _)) (pss_one (ps_ret (pe_tup pa_nil))) pss_nil)
      (pss_cons (ps_expr (pe_bm PySem.F.plainAttrs_list PySem.F.slot_list_extend PySem.F.type_list_extend mt_extend (pv 5) (pa_cons (pv 7) pa_nil)))
      (pss_one (ps_aug (i := 6) scLo.nd rfl (Or.inl rfl) pe_int ip_add))))))
      (pss_one (ps_ret (pe_callTy call_tuple_of (by rfl) T.n_tuple PyProof.Rows.Boot.«tuple» (pa_cons (pe_callB cr_sorted (by rfl) T.n_sorted PyProof.Rows.Boot.«sorted» (pa_cons (pv 5) pa_nil)) pa_nil))))))))), ?_⟩
    refine ⟨_, rfl, _, rfl, a, wt, ld, wv, G, sl, s, t, p, rfl, s16, hst, lk, hw, fun v H1 f1 lk1 ht1 => ?_⟩
    have f1' : Frm ld H H1 := f1
    obtain ⟨dx0, ha0, ks0⟩ := id lk
    obtain ⟨kvs0, hk0⟩ := ks0.dict
    refine ⟨_, rfl, _, rfl, (show 2 ≤ sizeLine by decide), fun pr npr => ⟨.tuple [.int dx, .int dy], dirsD, .tup (SqT.of upd_same) (.cons (.int _) (.cons (.int _) .nil)), dirs_dp T _, rfl, by decide, Nat.le_of_ble_eq_true rfl, ?_⟩⟩
    have einD : (!dirsD.any fun z => PyData.eqv z (.tuple [.int dx, .int dy])) = false := by
      simp only [dirs, List.mem_cons, List.not_mem_nil, or_false, Prod.mk.injEq] at hd
      rcases hd with ⟨rfl, rfl⟩ | ⟨rfl, rfl⟩ | ⟨rfl, rfl⟩ | ⟨rfl, rfl⟩ <;> decide
    rw [einD]
    refine ⟨_, rfl, iteF ?_⟩
    have s2 := new_same (o := .tup [.int dx, .int dy]) npr
    refine ⟨_, rfl, (show 1 ≤ sizeLine by decide), fun go ngo => ?_⟩
    have s3 := new_same (o := .lst [.int (s : Int)]) ngo
    have S3 := s2.trans s3
    have F3 : Frm ld H _ := f1.trans (Frm.of_same S3)
    have lk3 := lk1.same S3
    have hgl : go ≠ ld := fun e => by
      obtain ⟨_, _, z⟩ := lk1
      obtain ⟨_, z⟩ := z.dict
      rw [e, s2 _ _ z] at ngo
      cases ngo
    have ngoH : H go = none := by
      cases e : H go with
      | none => rfl
      | some z => exact absurd ((s2 _ _ (f1 _ _ hgl e)).symm.trans ngo) (by simp)
    have hga : go ≠ a := (ne_of_none ha0 ngoH).symm
    have fu : ∀ {H' : Hp} {ob : HO}, Frm ld H H' → Frm ld H (upd H' go ob) := fun f b ob n z => by
      rw [upd_ne (ne_of_none z ngoH)]
      exact f b ob n z
    refine seq_cut (fun σ' H' => σ' = [some g, some (.ref a), some (.int (s : Int)), some (.int dx), some (.int dy), some (.ref go), none, none] ∧ H' = upd (upd H1 pr (.tup [.int dx, .int dy])) go (.lst (nV [s]))) (fun σ' H' hq => ?_) (fun R hR => hR _ _ ⟨rfl, rfl⟩)
    obtain ⟨rfl, rfl⟩ := hq
    refine seq_cut (fun σ' H' => σ' = [some g, some (.ref a), some (.int (s : Int)), some (.int dx), some (.int dy), some (.ref go), some (.int ((0 : Nat) : Int)), none] ∧ H' = upd (upd H1 pr (.tup [.int dx, .int dy])) go (.lst (nV [s]))) (fun σ' H' hq => ?_) (fun R hR => show R [some g, some (.ref a), some (.int (s : Int)), some (.int dx), some (.int dy), some (.ref go), some (.int ((0 : Nat) : Int)), none] _ from hR _ _ ⟨rfl, rfl⟩)
    obtain ⟨rfl, rfl⟩ := hq
    refine seq_cut (fun σ' H' => ∃ (going : List Nat) (v6 v7 : Option V) (pc : Int → Prop), σ' = [some g, some (.ref a), some (.int (s : Int)), some (.int dx), some (.int dy), some (.ref go), v6, v7] ∧ H' go = some (.lst (nV going)) ∧ Frm ld H H' ∧ LkAt K H' a wt ld pc ∧ GoOk sl going pc ∧ lotG G sl dx dy 16 [s] 0 = some going ∧ ∀ c, pc c ↔ lotP G sl dx dy s p c) (fun σ' H' hP => ?_) (fun R hR => ?_)
    · obtain ⟨going, v6, v7, pc, rfl, hgo, F, lk', gk, eG, eS⟩ := hP
      have gl := gk.len
      refine ⟨_, rfl, go, going.map (fun n : Nat => (n : Int)), rfl, SqL.of (by rw [List.map_map]; exact hgo), by rw [List.length_map]; omega, fun ns q hperm hsort nq => ?_⟩
      refine ⟨q, _, rfl, .inl ⟨SqL.of upd_same, fun q2 nq2 => ?_⟩⟩
      have S := (new_same (o := .lst (ns.map V.int)) nq).trans (new_same (o := .tup (ns.map V.int)) nq2)
      refine k q2 _ (F.trans (Frm.of_same S)) ((lk'.same S).imp eS) ?_
      rw [lotR, eG, ← lotV_some gk hperm hsort]
      exact SqT.of upd_same
    · refine while_by (fun σ' H' => ∃ (going : List Nat) (i : Nat) (v7 : Option V) (pc : Int → Prop), σ' = [some g, some (.ref a), some (.int (s : Int)), some (.int dx), some (.int dy), some (.ref go), some (.int (i : Int)), v7] ∧ H' go = some (.lst (nV going)) ∧ Frm ld H H' ∧ LkAt K H' a wt ld pc ∧ GoOk sl going pc ∧ i ≤ going.length ∧ lotG G sl dx dy (16 - i) going i = lotG G sl dx dy 16 [s] 0 ∧ ∀ c, (pc c ∨ lotS G sl dx dy (16 - i) going i c) ↔ lotP G sl dx dy s p c) (fun σ' _ => plM σ') ⟨[s], 0, _, _, rfl, upd_same, F3, lk3, ⟨by simp, fun x hx => ?_, fun x hx => ?_⟩, Nat.zero_le _, rfl, fun c => Iff.rfl⟩ (fun σ' H' hP => ?_) (fun σ' H' Q0 Q1 m z => ?_)
      · obtain rfl : x = s := by simpa using hx
        exact ⟨s16, t, hst⟩
      · obtain rfl : x = s := by simpa using hx
        exact .inr rfl
      · obtain ⟨going, i, v7, pc, rfl, hgo, F, lk', gk, hi, eG, eS⟩ := hP
        have gl := gk.len
        refine ⟨_, rfl, _, rfl, go, _, rfl, .inl (SqL.of hgo), _, _, rfl, rfl, _, rfl, ite2 (fun z => ?_) (fun z => ?_)⟩
        · have z := of_decide_eq_true z
          unfold nV at z
          rw [List.length_map] at z
          have z : i < going.length := by omega
          obtain ⟨n, hn⟩ : ∃ n, 16 - i = n + 1 := ⟨16 - i - 1, by omega⟩
          have hn2 : 16 - (i + 1) = n := by omega
          rw [hn] at eG eS
          have hsi := List.getElem?_eq_getElem z
          obtain ⟨u, hu⟩ : ∃ u, u = going[i] := ⟨_, rfl⟩
          rw [← hu] at hsi
          have hm := List.mem_of_getElem? hsi
          obtain ⟨u16, tu, htu⟩ := gk.th u hm
          have tf' : TF H H' := lk.tf F
          have hat : (nV going)[i]? = some (.int (u : Int)) := by
            unfold nV
            rw [List.getElem?_map, hsi]
            rfl
          refine ⟨_, rfl, _, rfl, _, rfl, _, rfl, _, rfl, go, _, _, _, rfl, rfl, SqL.of hgo, atI_nat hat, _, rfl, _, rfl, g, a, wt, ld, go, wv, G, sl, going, u, tu, dx, dy, pc, rfl, hd, hg.tf tf', o, sa, hgo, u16, htu, gk.se u hm, lk', hw.tf tf', fun ej H5 f5 lk5 => ?_, fun j ej q H5 f5 lk5 hq nq => ?_⟩
          · refine ⟨_, rfl, rfl, _, rfl, iteT ?_⟩
            refine ⟨(show 0 ≤ sizeLine by decide), fun q nq => ?_⟩
            refine k q _ ((F.trans f5).trans (Frm.of_same (new_same nq))) ((lk5.same (new_same nq)).imp fun c => ?_) ?_
            · rw [← eS, lotS_none hsi ej, joinP_iff]
            · rw [lotR, ← eG, lotG_none hsi ej]
              exact SqT.of upd_same
          · have hgo5 := f5 _ _ hgl hgo
            have gk' := gk.step ej
            have gl' := gk'.len
            refine ⟨_, rfl, rfl, _, rfl, iteF ?_⟩
            refine ⟨_, rfl, .inl ⟨rfl, _, SqL.of hgo5⟩, _, rfl, go, q, _, _, rfl, rfl, hgo5, hq, ?_, ?_⟩
            · unfold nV
              rw [List.length_map, List.length_map]
              rw [List.length_append] at gl'
              exact Nat.le_trans gl' (by decide)
            · refine ⟨_, rfl, _, _, rfl, rfl, ⟨⟨going ++ j, i + 1, _, _, rfl, ?_, fu (F.trans f5), lk5.frm (x := go) Frm.of_upd (Ne.symm hga) (Ne.symm hgl), gk', ?_, ?_, fun c => ?_⟩, ?_⟩⟩
              · rw [upd_same]
                unfold nV
                rw [List.map_append]
              · rw [List.length_append]
                omega
              · rw [hn2, ← eG, lotG_some hsi ej]
              · rw [hn2, ← eS, lotS_some hsi ej, joinP_iff, or_assoc]
              · show (16 - ((i : Int) + 1)).toNat < (16 - (i : Int)).toNat
                omega
        · have z : ¬ _ := fun h => z (decide_eq_true h)
          unfold nV at z
          rw [List.length_map] at z
          have z : going.length ≤ i := by omega
          refine hR _ _ ⟨going, _, _, pc, rfl, hgo, F, lk', gk, ?_, fun c => ?_⟩
          · rw [← eG, lotG_end z]
          · have := eS c
            rw [lotS_end z] at this
            simpa using this
      · obtain ⟨x, e1, y, e2, l, xs, e3, e4, i, j, e5, e6, kb, e7, q⟩ := z
        exact ⟨x, e1, y, e2, l, xs, e3, e4, i, j, e5, e6, kb, e7, m _ _ q⟩
end
end K22
set_option maxRecDepth 100000
set_option maxHeartbeats 4000000
/-! What stands on what: the program. -/
namespace K22
open PySem PySem.Spec PyProof.Rows L2 KF KD KP
theorem iteN {c A B : Prop} [Decidable c] (hc : ¬ c) (h : B) : if decide c = true then A else B := by
  rw [decide_eq_false hc]
  exact iteF h
def restF (G : Gm) (sl : List (Option Tg)) (s : Nat) : Int :=
  if hsS G sl "falls" s = true then (if G.stp (bxS G sl s) 0 1 = true then -1 else if hsS G sl "bars" s = true then (match barL G sl ((bxS G sl s).mv 0 1) [s] with
    | h :: _ => (h : Int)
    | [] => -2) else -2) else -2
def restS (G : Gm) (sl : List (Option Tg)) (s : Nat) (c : Int) : Prop := hsS G sl "falls" s = true ∧ joinS G sl 0 1 [s] s c
def restP (G : Gm) (sl : List (Option Tg)) (s : Nat) (p : Int → Prop) (c : Int) : Prop := (p c ∨ c = (s : Int)) ∨ restS G sl s c
section
variable {P : Program} {w : World} {K : PySem.W.Frag} {mg : Str → Option Value} {base : Heap}
def spSt (K : PySem.W.Frag) : Sp := fun vs H Q _ => ∃ (g : V) (a wt ld : Addr) (wv : List V) (G : Gm) (sl : List (Option Tg)) (s : Nat) (t : Tg) (p : Int → Prop), vs = [g, .ref a, .int (s : Int)] ∧ GmAt K H g G ∧ G.ok ∧ SlAll G sl ∧ s < 16 ∧ sl[s]? = some (some t) ∧ LkAt K H a wt ld p ∧ WtAt K H wt wv G sl ∧
  ∀ H', Frm ld H H' → LkAt K H' a wt ld (restP G sl s p) → Q (.int (restF G sl s)) H'
theorem scSo : FnScope ["game", "looks", "slot", "thing", "box", "holding"] ["game", "looks", "slot"] (defScope s_stands_on) := ⟨rfl, rfl, rfl, by decide +kernel, rfl, by decide +kernel, by decide +kernel⟩
theorem ok_stands_on (T : Txt K w mg) : FnOk P w K mg base CX0 6 (He.fAd K ("stands_on", none)) (fdAt K (He.fAd K ("stands_on", none))) ["game", "looks", "slot"] (spSt K) := by
  obtain ⟨u1, g1, r1⟩ := T.c_IN_THE_AIR
  obtain ⟨u2, g2, r2⟩ := T.c_ON_THE_FLOOR
  refine T.F_stands_on.ok scSo (fun vs H Q E h => ?_) (fun cdv A outer s H vs Q E hr h => ?_)
  · obtain ⟨g, a, wt, ld, wv, G, sl, s, t, p, rfl, _⟩ := h
    rfl
  · obtain ⟨g, a, wt, ld, wv, G, sl, s, t, p, rfl, hg, o, sa, s16, hst, lk, hw, k⟩ := h
    refine ⟨_, PSs.nox (pss_cons (ps_set (i := 3) scSo.nd rfl (Or.inl rfl) (pe_call (ok_thing_in T) (hr.mono (by first | decide | omega)) (by rfl) T.g_thing_in (T.F_thing_in).kp T.b_thing_in .nil pass0 (pa_cons (pv 1) (pa_cons (pv 2) pa_nil))))
      (pss_cons (ps_if (PW.pt (pw_or (pt_not (pt_val (pe_call (ok_has_trait T) (hr.mono (by first | decide | omega)) (by rfl) T.g_has_trait (T.F_has_trait).kp T.b_has_trait .nil pass0 (pa_cons (pv 0) (pa_cons (pv 3) (pa_cons pe_str pa_nil)))))) (pw_or1 (pt_val (pe_call (ok_is_fallen T) (hr.mono (by first | decide | omega)) (by rfl) T.g_is_fallen (T.F_is_fallen).kp T.b_is_fallen .nil pass0 (pa_cons (pv 0) (pa_cons (pv 3) pa_nil))))))) (pss_one (ps_ret (pe_glob (v := .int (-2)) (by rfl) g1 r1))) pss_nil)
      (pss_cons (ps_set (i := 4) scSo.nd rfl (Or.inl rfl) (pe_call (ok_body_box T) (hr.mono (by first | decide | omega)) (by rfl) T.g_body_box (T.F_body_box).kp T.b_body_box .nil pass0 (pa_cons (pv 0) (pa_cons (pv 3) pa_nil))))
      (pss_cons (ps_if (pt_val (pe_call (ok_is_held_up T) (hr.mono (by first | decide | omega)) (by rfl) T.g_is_held_up (T.F_is_held_up).kp T.b_is_held_up .nil pass0 (pa_cons (pe_ix (r := rIxT K) ix_tup (pv 0) pe_int (fun _ _ => rfl)) (pa_cons (pv 4) pa_nil)))) (pss_one (ps_ret (pe_glob (v := .int (-1)) (by rfl) g2 r2))) pss_nil)
      (pss_cons (ps_if (pt_not (pt_val (pe_call (ok_has_trait T) (hr.mono (by first | decide | omega)) (by rfl) T.g_has_trait (T.F_has_trait).kp T.b_has_trait .nil pass0 (pa_cons (pv 0) (pa_cons (pv 3) (pa_cons pe_str pa_nil)))))) (pss_one (ps_ret (pe_glob (v := .int (-2)) (by rfl) g1 r1))) pss_nil)
      (pss_cons (ps_set (i := 5) scSo.nd rfl (Or.inl rfl) (pe_call (ok_barring T) (hr.mono (by first | decide | omega)) (by rfl) T.g_barring (T.F_barring).kp T.b_barring .nil pass0 (pa_cons (pv 0) (pa_cons (pv 1) (pa_cons (pe_call (ok_moved T) (hr.mono (by first | decide | omega)) (by rfl) T.g_moved (T.F_moved).kp T.b_moved .nil pass0 (pa_cons (pv 4) (pa_cons pe_int (pa_cons pe_int pa_nil)))) (pa_cons (pe_tup (pa_cons (pv 2) pa_nil)) pa_nil))))))
      (pss_one (ps_ret (pe_ifExp (pt_truth (pv 5) (by intro _; rfl)) (pe_ix (r := rIxL K) ix_list (pv 5) pe_int (fun _ _ => rfl)) (pe_glob (v := .int (-2)) (by rfl) g1 r1)))))))))), ?_⟩
    obtain ⟨kd, hkd, _⟩ := (sa.ok t (List.mem_of_getElem? hst)).kd
    obtain ⟨lim, limd, yh⟩ := (sa.ok t (List.mem_of_getElem? hst)).lim o
    have yhi := (sa.ok t (List.mem_of_getElem? hst)).y2
    have ebx : G.bx t = t.box kd := by unfold Gm.bx; rw [hkd]
    rw [ebx] at lim limd yh
    have eb := bxS_at (G := G) (sl := sl) hst hkd
    have ef := hsS_at (G := G) (sl := sl) (n := "falls") hst hkd
    have eh := hsS_at (G := G) (sl := sl) (n := "bars") hst hkd
    refine ⟨_, rfl, _, rfl, a, wt, ld, wv, G, sl, s, t, p, rfl, s16, hst, lk, hw, fun v H1 f1 lk1 ht1 => ?_⟩
    have tf1 := lk.tf f1
    have hg1 := hg.tf tf1
    refine ⟨_, rfl, _, rfl, g, v, G, t, kd, "falls", rfl, hg1, ht1, hkd, ?_⟩
    have P0 : ∀ {H' : Hp}, Frm ld H H' → LkAt K H' a wt ld (fun c => p c ∨ c = (s : Int)) → (∀ c, restS G sl s c ↔ False) → LkAt K H' a wt ld (restP G sl s p) := fun _ l e => l.imp fun c => by
      unfold restP
      rw [e]
      simp
    cases hf : kd.has "falls" with
    | false =>
      have e : restF G sl s = -2 := by
        rw [restF, ef, hf]
        rfl
      rw [e] at k
      exact ⟨_, rfl, iteT (k H1 f1 (P0 f1 lk1 fun c => by rw [restS, ef, hf]; simp))⟩
    | true =>
      refine ⟨_, rfl, iteF ?_⟩
      refine ⟨_, rfl, _, rfl, g, v, G, t, kd, rfl, hg1, o, ht1, hkd, fun H2 s2 => ⟨_, rfl, iteN (by omega) ?_⟩⟩
      have f2 := f1.trans (Frm.of_same s2)
      have tf2 := lk.tf f2
      have hg2 := hg.tf tf2
      have ht2 := TgAt.tf ht1 (same_tf s2)
      refine ⟨_, rfl, _, rfl, g, v, G, t, kd, rfl, hg2, ht2, hkd, fun pb H3 s3 hpb => ?_⟩
      have S3 := s2.trans s3
      have f3 := f1.trans (Frm.of_same S3)
      have tf3 := lk.tf f3
      have hb3 : BxAt K H3 (.ref pb) (t.box kd) := ⟨pb, rfl, SqT.of hpb⟩
      obtain ⟨ga, lv, ksv, rfl, sg, hlv, hks⟩ := id (hg.tf tf3)
      refine ⟨_, rfl, ga, _, _, _, rfl, rfl, sg, atI_nat (j := 0) rfl, _, rfl, lv, .ref pb, G, t.box kd, rfl, hlv, o, hb3, lim, limd 0 1 (by decide) (by decide) (by decide) (by decide), yh, fun H4 s4 => ?_⟩
      have S4 := S3.trans s4
      have f4 := f1.trans (Frm.of_same S4)
      have lk4 := lk1.same S4
      have tf4 := lk.tf f4
      cases hst' : G.stp (t.box kd) 0 1 with
      | true =>
        have e : restF G sl s = -1 := by
          rw [restF, ef, hf, eb, hst']
          rfl
        rw [e] at k
        exact ⟨_, rfl, iteT (k H4 f4 (P0 f4 lk4 fun c => by rw [restS, joinS, eb, hst']; simp))⟩
      | false =>
        refine ⟨_, rfl, iteF ?_⟩
        refine ⟨_, rfl, _, rfl, _, v, G, t, kd, "bars", rfl, hg.tf tf4, TgAt.tf ht1 (same_tf S4), hkd, ?_⟩
        cases hbr : kd.has "bars" with
        | false =>
          have e : restF G sl s = -2 := by
            rw [restF, ef, hf, eb, hst', eh, hbr]
            rfl
          rw [e] at k
          exact ⟨_, rfl, iteT (k H4 f4 (P0 f4 lk4 fun c => by rw [restS, joinS, eh, hbr]; simp))⟩
        | true =>
          refine ⟨_, rfl, iteF ?_⟩
          have e : restF G sl s = (match barL G sl ((t.box kd).mv 0 1) [s] with
            | h :: _ => (h : Int)
            | [] => -2) := by
            rw [restF, ef, hf, eb, hst', eh, hbr]
            rfl
          have eS : ∀ c, restP G sl s p c ↔ seenP G sl ((t.box kd).mv 0 1) [s] (fun c => p c ∨ c = (s : Int)) c := fun c => by
            unfold restP restS joinS seenP seenS
            rw [ef, hf, eb, hst', eh, hbr]
            simp
          refine ⟨_, rfl, _, rfl, _, rfl, .ref pb, t.box kd, 0, 1, rfl, hb3.tf (same_tf s4), fun pm H5 s5 hpm => ?_⟩
          refine ⟨_, rfl, (show 1 ≤ sizeLine by decide), fun pt npt => ?_⟩
          have S6 := (S4.trans s5).trans (new_same (o := .tup [.int (s : Int)]) npt)
          have tf6 := lk.tf (f1.trans (Frm.of_same S6))
          have hb6 : BxAt K (upd H5 pt (.tup [.int (s : Int)])) (.ref pm) ((t.box kd).mv 0 1) := ⟨pm, rfl, SqT.of (new_same npt _ _ hpm)⟩
          refine ⟨_, .ref pm, a, wt, ld, pt, wv, G, sl, (t.box kd).mv 0 1, [s], _, rfl, hg.tf tf6, o, sa, lk1.same S6, hw.tf tf6, hb6, limd 0 1 (by decide) (by decide) (by decide) (by decide), SqT.of upd_same, fun q H7 f7 lk7 hq nq => ?_⟩
          have F7 : Frm ld H H7 := (f1.trans (Frm.of_same S6)).trans f7
          have lk7 := lk7.imp fun c => (eS c).symm
          have k := k H7 F7 lk7
          rw [e] at k
          cases hB : barL G sl ((t.box kd).mv 0 1) [s] with
          | nil =>
            rw [hB] at hq k
            exact ⟨_, rfl, _, .inl ⟨_, SqL.of hq, rfl⟩, iteF k⟩
          | cons h tl =>
            rw [hB] at hq k
            exact ⟨_, rfl, _, .inl ⟨_, SqL.of hq, rfl⟩, iteT ⟨_, rfl, q, _, _, _, rfl, rfl, SqL.of hq, atI_nat (j := 0) rfl, k⟩⟩
end
end K22
set_option maxRecDepth 100000
set_option maxHeartbeats 4000000
/-! The law looks. -/
namespace K22
open PySem PySem.Spec PyProof.Rows L2 KF KD KP
/-- w of the law -/
def WlAt (K : PySem.W.Frag) (H : Hp) (wa : Addr) (sl : List (Option Tg)) : Prop := ∃ wv : List V, H wa = some (.lst wv) ∧ wv.length = 49 ∧ ∀ (i : Nat) (o : Option Tg), sl[i]? = some o → ∃ v : V, wv[i]? = some v ∧ SlAt K H v o
theorem WlAt.tf {K : PySem.W.Frag} {H H' : Hp} {wa : Addr} {sl : List (Option Tg)} (h : WlAt K H wa sl) (e : TF H H') (f : H' wa = H wa) : WlAt K H' wa sl := by
  obtain ⟨wv, h1, h2, h3⟩ := h
  exact ⟨wv, by rw [f]; exact h1, h2, fun i o z => by obtain ⟨v, g1, g2⟩ := h3 i o z; exact ⟨v, g1, g2.tf e⟩⟩
theorem WlAt.lst {K : PySem.W.Frag} {H : Hp} {wa : Addr} {sl : List (Option Tg)} (h : WlAt K H wa sl) : ∃ wv, H wa = some (.lst wv) := by
  obtain ⟨wv, h1, _⟩ := h
  exact ⟨wv, h1⟩
theorem WlAt.frm {K : PySem.W.Frag} {H H' : Hp} {wa sd : Addr} {sl : List (Option Tg)} {p : Int → Prop} (h : WlAt K H wa sl) (ks : KSet H sd p) (f : Frm sd H H') : WlAt K H' wa sl := by
  obtain ⟨kvs, hk⟩ := ks.dict
  obtain ⟨wv, h1⟩ := h.lst
  refine h.tf (Frm.tfk f hk) ?_
  rw [h1]
  exact f _ _ (fun e => by rw [e, hk] at h1; cases h1) h1
def ButAt (K : PySem.W.Frag) (H : Hp) (v : V) (but : List Nat) : Prop := ∃ a, v = .ref a ∧ (SqL K H a (nV but) ∨ SqT K H a (nV but))
def lkI (G : Gm) (sl : List (Option Tg)) (cs : List Int) (b : Bx) (but : List Nat) (i : Nat) : List Nat := (List.range i).filter fun s => !but.contains s && (near G sl cs s && meetS G sl b s)
def lkP (G : Gm) (sl : List (Option Tg)) (cs : List Int) (but : List Nat) (p : Int → Prop) (i : Nat) (c : Int) : Prop := (p c ∨ c ∈ cs) ∨ ∃ s : Nat, c = (s : Int) ∧ s < i ∧ s ∉ but ∧ near G sl cs s = true
theorem lk_no {G : Gm} {sl : List (Option Tg)} {cs : List Int} {b : Bx} {but : List Nat} {i : Nat} (p : Int → Prop) (h : i ∈ but ∨ near G sl cs i = false) : lkI G sl cs b but (i + 1) = lkI G sl cs b but i ∧ ∀ c, lkP G sl cs but p i c ↔ lkP G sl cs but p (i + 1) c := by
  constructor
  · unfold lkI
    rw [List.range_succ, List.filter_append]
    rcases h with h | h <;> simp [h]
  · intro c
    unfold lkP
    constructor
    · rintro (z | ⟨s, z1, z2, z3⟩)
      · exact .inl z
      · exact .inr ⟨s, z1, by omega, z3⟩
    · rintro (z | ⟨s, z1, z2, z3, z4⟩)
      · exact .inl z
      · refine .inr ⟨s, z1, ?_, z3, z4⟩
        have : s ≠ i := fun e => by
          rcases h with h | h
          · exact z3 (by rw [e]; exact h)
          · rw [e, h] at z4
            cases z4
        omega
theorem lk_yes {G : Gm} {sl : List (Option Tg)} {cs : List Int} {b : Bx} {but : List Nat} {i : Nat} (p : Int → Prop) (h1 : i ∉ but) (h2 : near G sl cs i = true) : lkI G sl cs b but (i + 1) = (if meetS G sl b i = true then lkI G sl cs b but i ++ [i] else lkI G sl cs b but i) ∧ ∀ c, (lkP G sl cs but p i c ∨ c = (i : Int)) ↔ lkP G sl cs but p (i + 1) c := by
  constructor
  · unfold lkI
    rw [List.range_succ, List.filter_append]
    cases hm : meetS G sl b i <;> simp [h1, h2, hm]
  · intro c
    unfold lkP
    constructor
    · rintro ((z | ⟨s, z1, z2, z3⟩) | z)
      · exact .inl z
      · exact .inr ⟨s, z1, by omega, z3⟩
      · exact .inr ⟨i, z, by omega, h1, h2⟩
    · rintro (z | ⟨s, z1, z2, z3, z4⟩)
      · exact .inl (.inl z)
      · by_cases e : s = i
        · exact .inr (by rw [z1, e])
        · exact .inl (.inr ⟨s, z1, by omega, z3, z4⟩)
theorem lkI_len {G : Gm} {sl : List (Option Tg)} {cs : List Int} {b : Bx} {but : List Nat} {i : Nat} : (lkI G sl cs b but i).length ≤ i := Nat.le_trans (List.length_filter_le _ _) (by rw [List.length_range]; exact Nat.le_refl _)
theorem near_at {G : Gm} {sl : List (Option Tg)} {cs : List Int} {s : Nat} {t : Tg} {kd : Kd} (h : sl[s]? = some (some t)) (hk : G.kds[t.k]? = some kd) : near G sl cs s = (G.blk (t.box kd)).any fun c => decide (c ∈ cs) := by
  have e : G.bx t = t.box kd := by rw [Gm.bx, hk]
  have e2 : ∀ c, inB G sl c s = decide (c ∈ G.blk (t.box kd)) := fun c => by
    unfold inB
    rw [h]
    dsimp only
    rw [e]
  unfold near
  rw [Bool.eq_iff_iff, List.any_eq_true, List.any_eq_true]
  constructor
  · rintro ⟨c, h1, h2⟩
    rw [e2] at h2
    exact ⟨c, of_decide_eq_true h2, decide_eq_true h1⟩
  · rintro ⟨c, h1, h2⟩
    exact ⟨c, of_decide_eq_true h2, by rw [e2]; exact decide_eq_true h1⟩
theorem near_no {G : Gm} {sl : List (Option Tg)} {cs : List Int} {s : Nat} (h : sl[s]? = some none) : near G sl cs s = false := by
  unfold near
  rw [List.any_eq_false]
  intro c _
  unfold inB
  rw [h]
  simp
theorem meets_sym (a b : Bx) : meets a b = meets b a := by
  rw [Bool.eq_iff_iff]
  unfold meets
  simp only [Bool.and_eq_true, decide_eq_true_eq]
  omega
theorem inV_int (c : Int) : ∀ l : List Int, inV (.int c) (l.map V.int) = decide (c ∈ l)
  | [] => rfl
  | d :: l => by
    have h := inV_int c l
    unfold inV at h ⊢
    rw [List.map_cons, List.any_cons, h, Bool.eq_iff_iff]
    show ((d == c) || decide (c ∈ l)) = true ↔ _
    simp only [Bool.or_eq_true, beq_iff_eq, decide_eq_true_eq, List.mem_cons]
    constructor
    · rintro (z | z)
      · exact .inl z.symm
      · exact .inr z
    · rintro (z | z)
      · exact .inl z.symm
      · exact .inr z
theorem flat_int : ∀ l : List Int, (l.map V.int).all flatV = true
  | [] => rfl
  | _ :: l => flat_int l
section
variable {P : Program} {w : World} {K : PySem.W.Frag} {mg : Str → Option Value} {base : Heap}
def spLk (K : PySem.W.Frag) : Sp := fun vs H Q _ => ∃ (g u bv : V) (wa sd : Addr) (G : Gm) (sl : List (Option Tg)) (b : Bx) (but : List Nat) (p : Int → Prop), vs = [g, .ref wa, .ref sd, u, bv] ∧ GmAt K H g G ∧ G.ok ∧ SlAll G sl ∧ WlAt K H wa sl ∧ KSet H sd p ∧ BxAt K H u b ∧ b.lim ∧ (∃ ba, bv = .ref ba ∧ ∀ H', Frm sd H H' → SqL K H' ba (nV but) ∨ SqT K H' ba (nV but)) ∧
  ∀ q H', Frm sd H H' → KSet H' sd (seenP G sl b but p) → H' q = some (.lst (nV (lookL G sl b but))) → H q = none → Q (.ref q) H'
theorem scLlk : FnScope ["game", "w", "seen", "box", "but", "cells", "cell", "found", "slot", "own"] ["game", "w", "seen", "box", "but"] (defScope s_law_look) := ⟨rfl, rfl, rfl, by decide +kernel, rfl, by decide +kernel, by decide +kernel⟩
theorem ok_law_look (T : Txt K w mg) : FnOk P w K mg base CX0 3 (He.fAd K ("_law_look", none)) (fdAt K (He.fAd K ("_law_look", none))) ["game", "w", "seen", "box", "but"] (spLk K) := by
  refine T.F_law_look.ok scLlk (fun vs H Q E h => ?_) (fun cdv A outer s H vs Q E hr h => ?_)
  · obtain ⟨g, u, bv, wa, sd, G, sl, b, but, p, rfl, _⟩ := h
    rfl
  · obtain ⟨g, u, bv, wa, sd, G, sl, b, but, p, rfl, hg, o, sa, hw, ks, hb, lim, hbu, k⟩ := h
    have hu := Nat.lt_of_le_of_lt (Nat.add_le_add_left (by decide : 1 ≤ 64) _) hr.units
    refine ⟨_, PSs.nox (pss_cons (ps_set (i := 5) scLlk.nd rfl (Or.inr rfl) (pe_call (ok_law_blocks T) (hr.mono (by first | decide | omega)) (by rfl) T.g_law_blocks (T.F_law_blocks).kp T.b_law_blocks .nil pass0 (pa_cons (pv 0) (pa_cons (pv 3) pa_nil))))
      (pss_cons (ps_for PassesOwn.never rfl (pi_list (pv 5)) (pg_name (i := 6) scLlk.nd rfl (Or.inl rfl)) (pss_one (ps_dput hu (pv 2) (pv 6) pe_bl rfl)))
      (pss_cons (ps_set (i := 7) scLlk.nd rfl (Or.inl rfl) (pe_lst pa_nil))
      (pss_cons (ps_for PassesOwn.never rfl (pi_range1 (by rfl) T.n_range (pa_cons pe_int pa_nil)) (pg_name (i := 8) scLlk.nd rfl (Or.inl rfl)) (pss_one (ps_if (PW.pt (pw_and (pt_cmpR (r := rIn K true) op_notIn_seq (pv 8) (pv 4) rfl) (pw_and1 (pt_cmpR op_notN (pe_ix (r := rIxL K) ix_list (pv 1) (pv 8) (fun _ _ => rfl)) pe_non (nomark _))))) (pss_cons (ps_set (i := 9) scLlk.nd rfl (Or.inl rfl) (pe_call (ok_law_box T) (hr.mono (by first | decide | omega)) (by rfl) T.g_law_box (T.F_law_box).kp T.b_law_box .nil pass0 (pa_cons (pv 0) (pa_cons (pe_ix (r := rIxL K) ix_list (pv 1) (pv 8) (fun _ _ => rfl)) pa_nil))))
      (pss_one (ps_if (pt_val (pe_callB (cr_any rfl) (by rfl) T.n_any PyProof.Rows.Boot.«any» (pa_cons (pe_lc (own := [("cell", 6)]) (g := gName 6) (tt := tYes) (by rfl) scLlk.nd (pi_list (pe_call (ok_law_blocks T) (hr.mono (by first | decide | omega)) (by rfl) T.g_law_blocks (T.F_law_blocks).kp T.b_law_blocks .nil pass0 (pa_cons (pv 0) (pa_cons (pv 9) pa_nil)))) (blkOk_by (own := [("cell", 6)]) (N := ["game", "w", "seen", "box", "but", "cells", "cell", "found", "slot", "own"]) (sc := defScope s_law_look) (by decide +kernel)) (fun _ _ _ _ _ => pg_name (i := 6) scLlk.nd rfl (Or.inl rfl)) (fun _ _ _ _ _ => pts_nil) (fun _ _ _ _ _ => (pe_cmpR (r := rIn K false) op_in_seq (pv 6) (pv 5) rfl))) pa_nil))) (pss_cons (ps_dput hu (pv 2) (pv 8) pe_bl rfl)
      (pss_one (ps_if (pt_val (pe_call (ok_law_meet T) (hr.mono (by first | decide | omega)) (by rfl) T.g_law_meet (T.F_law_meet).kp T.b_law_meet .nil pass0 (pa_cons (pv 9) (pa_cons (pv 3) pa_nil)))) (pss_one (ps_expr (pe_bm PySem.F.plainAttrs_list PySem.F.slot_list_append PySem.F.type_list_append mt_append (pv 7) (pa_cons (pv 8) pa_nil)))) pss_nil))) pss_nil))) pss_nil)))
      (pss_one (ps_ret (pv 7))))))), ?_⟩
    obtain ⟨ba, rfl, hba⟩ := hbu
    obtain ⟨kvs0, hk0⟩ := id ks.dict
    refine ⟨_, rfl, _, rfl, g, u, G, b, rfl, hg, o, hb, lim, fun qc H1 s1 hqc _ => ⟨_, rfl, qc, rfl, ⟨_, SqL.of hqc⟩, ?_⟩⟩
    obtain ⟨cs, hcs⟩ : ∃ cs, cs = G.blk b := ⟨_, rfl⟩
    have csl : cs.length ≤ 40 := by rw [hcs]; exact blk_len o lim
    have csm : ∀ c ∈ cs, 49 ≤ c ∧ c < 49 + G.bh * G.bw := fun c hc => blk_mem o lim (by rw [← hcs]; exact hc)
    have b40 := bhw o
    rw [← hcs] at hqc
    have ks1 := ks.same s1
    have hqs : qc ≠ sd := fun e => by rw [e, s1 _ _ hk0] at hqc; cases hqc
    have N1 : ∀ {H' : Hp}, Frm sd H1 H' → Frm sd H H' := fun f => (Frm.of_same s1).trans f
    refine L2.for_it (walk_list (K := K) (a := qc) (xs := cs.map V.int)) (fun i σ H' => ∃ v6 : Option V, σ = [some g, some (.ref wa), some (.ref sd), some u, some (.ref ba), some (.ref qc), v6, none, none, none] ∧ Frm sd H1 H' ∧ KSet H' sd (fun c => p c ∨ c ∈ cs.take i)) ⟨_, rfl, Frm.refl _ _, ks1.imp fun c => by rw [List.take_zero]; simp⟩ (fun i σ H' _ h => by obtain ⟨_, _, f, _⟩ := h; exact SqL.of (f _ _ hqs hqc)) (fun i x σ H2 Hx hi hPv hy => ?_) (fun σ H2 hPv => ?_)
    · obtain ⟨v6, rfl, f2, k2⟩ := hPv
      obtain ⟨rfl, hx⟩ := hy
      rw [List.length_map] at hi
      have hci := List.getElem?_eq_getElem hi
      obtain ⟨c, hc⟩ : ∃ c, c = cs[i] := ⟨_, rfl⟩
      rw [← hc] at hci
      rw [List.getElem?_map, hci] at hx
      cases hx
      obtain ⟨c1, c2⟩ := csm c (List.mem_of_getElem? hci)
      obtain ⟨kvs2, hk2⟩ := k2.dict
      refine ⟨_, rfl, _, rfl, sd, _, rfl, DPut.k (k := .inl c) hk2 (Nat.lt_of_le_of_lt (k2.len hk2) (by decide)), ?_⟩
      refine ⟨_, rfl, f2.trans Frm.of_upd, (kset_put k2 hk2 (.inr (by omega))).imp fun c' => ?_⟩
      rw [List.take_add_one, hci, List.mem_append, or_assoc]
      simp
    obtain ⟨v6, rfl, f2, k2⟩ := hPv
    rw [List.length_map, List.take_length] at k2
    refine ⟨(show 0 ≤ sizeLine by decide), fun fo nfo => ?_⟩
    have s3 := new_same (o := .lst []) nfo
    have F3 := (N1 f2).trans (Frm.of_same s3)
    have k3 := k2.same s3
    have hqc2 := f2 _ _ hqs hqc
    have hfs : fo ≠ sd := fun e => by
      obtain ⟨_, z⟩ := k2.dict
      rw [e, z] at nfo
      cases nfo
    have nfoH : H fo = none := by
      cases e : H fo with
      | none => rfl
      | some z => exact absurd ((N1 f2 _ _ hfs e).symm.trans nfo) (by simp)
    have fu : ∀ {H' : Hp} {ob : HO}, Frm sd H H' → Frm sd H (upd H' fo ob) := fun f b ob n z => by
      rw [upd_ne (ne_of_none z nfoH)]
      exact f b ob n z
    have hqf : qc ≠ fo := fun e => by rw [e, nfo] at hqc2; cases hqc2
    refine ⟨16, rfl, by decide, by decide, ?_⟩
    refine L2.for_it (walk_r0 (n := 16)) (fun i σ H' => ∃ v6 v8 v9 : Option V, σ = [some g, some (.ref wa), some (.ref sd), some u, some (.ref ba), some (.ref qc), v6, some (.ref fo), v8, v9] ∧ H' qc = some (.lst (cs.map V.int)) ∧ Frm sd H H' ∧ H' fo = some (.lst (nV (lkI G sl cs b but i))) ∧ KSet H' sd (lkP G sl cs but p i)) ⟨_, _, _, rfl, s3 _ _ hqc2, F3, upd_same, k3.imp fun c => ⟨.inl, fun z => z.elim id fun ⟨s, _, h, _⟩ => absurd h (Nat.not_lt_zero _)⟩⟩ (fun _ _ _ _ _ => trivial) (fun i x σ H4 Hx hi hPv hy => ?_) (fun σ H4 hPv => ?_)
    · obtain ⟨v6, v8, v9, rfl, hq4, f4, hf4, k4⟩ := hPv
      obtain ⟨rfl, rfl⟩ := hy
      have tf4 : TF H Hx := Frm.tfk f4 hk0
      obtain ⟨wv, hwv, wl, hws⟩ := hw.frm ks f4
      refine ⟨_, rfl, _, rfl, ba, _, rfl, hba _ f4, rfl, flat_nat _, _, rfl, ite2 (fun z => ?_) (fun z => ?_)⟩
      · have hnb : i ∉ but := by
          have z : (!inV (.int (i : Int)) (nV but)) = true := z
          rw [inV_nat] at z
          simpa using z
        obtain ⟨so, hso⟩ : ∃ so, sl[i]? = some so := ⟨_, List.getElem?_eq_getElem (by rw [sa.len]; omega)⟩
        obtain ⟨v, hv1, hv2⟩ := hws i so hso
        refine ⟨_, rfl, _, rfl, wa, _, _, _, rfl, rfl, SqL.of hwv, atI_nat hv1, ?_⟩
        cases so with
        | none =>
          obtain rfl : v = .non := hv2
          obtain ⟨n1, n2⟩ := lk_no (b := b) (but := but) p (.inr (near_no (G := G) (cs := cs) hso))
          refine ⟨rfl, _, rfl, iteF ?_⟩
          exact ⟨_, _, _, rfl, hq4, f4, by rw [n1]; exact hf4, k4.imp n2⟩
        | some t =>
          obtain ⟨kd, hkd, _⟩ := (sa.ok t (List.mem_of_getElem? hso)).kd
          obtain ⟨limt, _, _⟩ := (sa.ok t (List.mem_of_getElem? hso)).lim o
          have ebx : G.bx t = t.box kd := by unfold Gm.bx; rw [hkd]
          rw [ebx] at limt
          obtain ⟨ta, ow, rfl, hta⟩ := id hv2
          refine ⟨rfl, _, rfl, iteT ?_⟩
          refine ⟨_, rfl, _, rfl, _, rfl, wa, _, _, _, rfl, rfl, SqL.of hwv, atI_nat hv1, g, _, G, t, kd, rfl, hg.tf tf4, hv2, hkd, fun pb H5 s5 hpb => ?_⟩
          have hb5 : BxAt K H5 (.ref pb) (t.box kd) := ⟨pb, rfl, SqT.of hpb⟩
          have F5 := f4.trans (Frm.of_same s5)
          have tf5 := tf4.trans (same_tf s5)
          refine ⟨_, rfl, _, rfl, g, .ref pb, G, t.box kd, rfl, hg.tf tf5, o, hb5, limt, fun p2 H6 s6 hp2 _ => ⟨p2, rfl, ⟨_, SqL.of hp2⟩, fun D hD => ?_⟩⟩
          obtain ⟨bs, hbs⟩ : ∃ bs, bs = G.blk (t.box kd) := ⟨_, rfl⟩
          have bsl : bs.length ≤ 40 := by rw [hbs]; exact blk_len o limt
          rw [← hbs] at hp2
          have S6 := s5.trans s6
          have hq6 := S6 _ _ hq4
          refine lc_it (walk_list (K := K) (a := p2) (xs := bs.map V.int)) (fun j H' => Acc H6 D (fl bs (fun _ => true) (fun c => V.bl (decide (c ∈ cs))) j) H') (acc_0 hD) (fun j H' _ h => SqL.of (h.1 _ _ hp2)) (fun j v H' Hy hj h yy => ?_) (fun H' h => ?_)
          · obtain ⟨rfl, hv⟩ := yy
            rw [List.length_map] at hj
            have hx := List.getElem?_eq_getElem hj
            rw [List.getElem?_map, hx] at hv
            cases hv
            refine ⟨rfl, ?_⟩
            dsimp only [tYes]
            rw [if_pos rfl]
            refine ⟨_, rfl, _, rfl, qc, _, rfl, .inl (SqL.of (h.1 _ _ hq6)), rfl, flat_int _, ?_⟩
            have hh := acc_yes (f := fun c => V.bl (decide (c ∈ cs))) hD h (Same.refl _) hx rfl (by omega)
            rw [← inV_int] at hh
            exact hh
          · rw [List.length_map, fl_every] at h
            refine ⟨D, bs.map fun c => decide (c ∈ cs), rfl, SqL.of (by rw [h.2, List.map_map]; rfl), ?_⟩
            rw [List.any_map]
            have S7 := S6.trans h.1
            have f7 := f4.trans (Frm.of_same S7)
            have tf7 := tf4.trans (same_tf S7)
            have k7 := k4.same S7
            have en := near_at (cs := cs) hso hkd
            rw [← hbs] at en
            cases hn : near G sl cs i with
            | false =>
              have e : (bs.any (id ∘ fun c => decide (c ∈ cs))) = false := by rw [← hn, en]; rfl
              obtain ⟨n1, n2⟩ := lk_no (b := b) (but := but) p (.inr hn)
              rw [e]
              exact ⟨_, rfl, iteF ⟨_, _, _, rfl, S7 _ _ hq4, f7, by rw [n1]; exact S7 _ _ hf4, k7.imp n2⟩⟩
            | true =>
              have e : (bs.any (id ∘ fun c => decide (c ∈ cs))) = true := by rw [← hn, en]; rfl
              obtain ⟨n1, n2⟩ := lk_yes (b := b) p hnb hn
              rw [e]
              refine ⟨_, rfl, iteT ?_⟩
              obtain ⟨kvs7, hk7⟩ := k7.dict
              refine ⟨_, rfl, _, rfl, sd, _, rfl, DPut.k (k := .inl (i : Int)) hk7 (Nat.lt_of_le_of_lt (k7.len hk7) (by decide)), ?_⟩
              have f8 := f7.trans (Frm.of_upd (d := sd) (H := H') (o := .dK (putK kvs7 (.inl (i : Int)) (.bl true))))
              have k8 := (kset_put (v := .bl true) k7 hk7 (c := (i : Int)) (.inl (by omega))).imp n2
              have hb8 : BxAt K (upd H' sd (.dK (putK kvs7 (.inl (i : Int)) (.bl true)))) (.ref pb) (t.box kd) := BxAt.tf hb5 ((same_tf (s6.trans h.1)).trans (Frm.tfk Frm.of_upd hk7))
              refine ⟨_, rfl, _, rfl, .ref pb, u, t.box kd, b, rfl, hb8, hb.tf (Frm.tfk f8 hk0), ?_⟩
              have em := meetS_at (G := G) (b := b) hso hkd
              have hq8 := Frm.of_upd (d := sd) (H := H') (o := .dK (putK kvs7 (.inl (i : Int)) (.bl true))) _ _ hqs (S7 _ _ hq4)
              have hf8 := Frm.of_upd (d := sd) (H := H') (o := .dK (putK kvs7 (.inl (i : Int)) (.bl true))) _ _ hfs (S7 _ _ hf4)
              rw [em] at n1
              rw [meets_sym]
              cases hm : meets b (t.box kd) with
              | false =>
                rw [hm, if_neg (by decide)] at n1
                exact ⟨_, rfl, iteF ⟨_, _, _, rfl, hq8, f8, by rw [n1]; exact hf8, k8⟩⟩
              | true =>
                rw [hm, if_pos rfl] at n1
                refine ⟨_, rfl, iteT ⟨_, rfl, .inl ⟨rfl, _, SqL.of hf8⟩, _, rfl, fo, _, _, rfl, rfl, hf8, ?_, _, _, _, rfl, ?_, fu f8, ?_, k8.keep (upd_ne (Ne.symm hfs))⟩⟩
                · unfold nV
                  rw [List.length_map]
                  exact Nat.lt_of_le_of_lt (Nat.le_trans lkI_len (show i ≤ 16 by omega)) (by decide)
                · rw [upd_ne hqf]
                  exact hq8
                · rw [upd_same, n1]
                  unfold nV
                  rw [List.map_append]
                  rfl
      · have hb' : i ∈ but := by
          have z : ¬ (!inV (.int (i : Int)) (nV but)) = true := z
          rw [inV_nat] at z
          simpa using z
        obtain ⟨n1, n2⟩ := lk_no (G := G) (sl := sl) (cs := cs) (b := b) p (.inl hb')
        exact ⟨_, _, _, rfl, hq4, f4, by rw [n1]; exact hf4, k4.imp n2⟩
    · obtain ⟨v6, v8, v9, rfl, hq4, f4, hf4, k4⟩ := hPv
      refine ⟨_, rfl, k fo H4 f4 (k4.imp fun c => ?_) ?_ nfoH⟩
      · unfold seenP lkP
        rw [← hcs, or_assoc]
      · rw [hf4, lookL, lkI, hcs]
end
end K22
set_option maxRecDepth 100000
set_option maxHeartbeats 4000000
/-! The law counts a lot. -/
namespace K22
open PySem PySem.Spec PyProof.Rows L2 KF KD KP
theorem GoOk.mono {sl : List (Option Tg)} {going : List Nat} {p q : Int → Prop} (h : GoOk sl going p) (e : ∀ c, p c → q c) : GoOk sl going q := ⟨h.nd, h.th, fun s m => e _ (h.se s m)⟩
def brI (G : Gm) (sl : List (Option Tg)) (L : List Nat) (j : Nat) : List Nat := (L.take j).filter (hsS G sl "bars")
theorem brI_no {G : Gm} {sl : List (Option Tg)} {L : List Nat} {j x : Nat} (h : L[j]? = some x) (hb : hsS G sl "bars" x = false) : brI G sl L (j + 1) = brI G sl L j := by
  rw [brI, List.take_add_one, h, List.filter_append, brI]
  simp [hb]
theorem brI_yes {G : Gm} {sl : List (Option Tg)} {L : List Nat} {j x : Nat} (h : L[j]? = some x) (hb : hsS G sl "bars" x = true) : brI G sl L (j + 1) = brI G sl L j ++ [x] := by
  rw [brI, List.take_add_one, h, List.filter_append, brI]
  simp [hb]
theorem brI_len {G : Gm} {sl : List (Option Tg)} {L : List Nat} {j : Nat} : (brI G sl L j).length ≤ L.length := Nat.le_trans (List.length_filter_le _ _) (by rw [List.length_take]; omega)
section
variable {P : Program} {w : World} {K : PySem.W.Frag} {mg : Str → Option Value} {base : Heap}
def spLlo (K : PySem.W.Frag) : Sp := fun vs H Q _ => ∃ (g : V) (wa sd : Addr) (G : Gm) (sl : List (Option Tg)) (s : Nat) (t : Tg) (dx dy : Int) (p : Int → Prop), vs = [g, .ref wa, .ref sd, .int (s : Int), .int dx, .int dy] ∧ (dx, dy) ∈ dirs ∧ GmAt K H g G ∧ G.ok ∧ SlAll G sl ∧ s < 16 ∧ sl[s]? = some (some t) ∧ WlAt K H wa sl ∧ KSet H sd p ∧
  ∀ q H', Frm sd H H' → KSet H' sd (fun c => p c ∨ lotS G sl dx dy 16 [s] 0 c) → H' q = some (.lst (nV (lotR G sl dx dy s))) → H q = none → Q (.ref q) H'
theorem scLlo : FnScope ["game", "w", "seen", "slot", "dx", "dy", "going", "turn", "box", "there", "other", "lifted"] ["game", "w", "seen", "slot", "dx", "dy"] (defScope s_law_lot) := ⟨rfl, rfl, rfl, by decide +kernel, rfl, by decide +kernel, by decide +kernel⟩
theorem ok_law_lot (T : Txt K w mg) : FnOk P w K mg base CX0 6 (He.fAd K ("_law_lot", none)) (fdAt K (He.fAd K ("_law_lot", none))) ["game", "w", "seen", "slot", "dx", "dy"] (spLlo K) := by
  refine T.F_law_lot.ok scLlo (fun vs H Q E h => ?_) (fun cdv A outer s H vs Q E hr h => ?_)
  · obtain ⟨g, wa, sd, G, sl, s, t, dx, dy, p, rfl, _⟩ := h
    rfl
  · obtain ⟨g, wa, sd, G, sl, s, t, dx, dy, p, rfl, hd, hg, o, sa, s16, hst, hw, ks, k⟩ := h
    refine ⟨_, PSs.nox (pss_cons (ps_set (i := 6) scLlo.nd rfl (Or.inl rfl) (pe_lst (pa_cons (pv 3) pa_nil)))
      (pss_cons (ps_for PassesOwn.never rfl (pi_range1 (by rfl) T.n_range (pa_cons pe_int pa_nil)) (pg_name (i := 7) scLlo.nd rfl (Or.inl rfl)) (pss_one (ps_if (pt_cmpR op_lt (pv 7) (pe_callB (r := Evl.rLenS K) call_len_seq (by rfl) T.n_len PyProof.Rows.Boot.«len» (pa_cons (pv 6) pa_nil)) (nomark _)) (pss_cons (ps_set (i := 8) scLlo.nd rfl (Or.inl rfl) (pe_call (ok_law_box T) (hr.mono (by first | decide | omega)) (by rfl) T.g_law_box (T.F_law_box).kp T.b_law_box .nil pass0 (pa_cons (pv 0) (pa_cons (pe_ix (r := rIxL K) ix_list (pv 1) (pe_ix (r := rIxL K) ix_list (pv 6) (pv 7) (fun _ _ => rfl)) (fun _ _ => rfl)) pa_nil))))
      (pss_cons (ps_if (pt_val (pe_call (ok_law_stops T) (hr.mono (by first | decide | omega)) (by rfl) T.g_law_stops (T.F_law_stops).kp T.b_law_stops .nil pass0 (pa_cons (pv 0) (pa_cons (pv 8) (pa_cons (pv 4) (pa_cons (pv 5) pa_nil)))))) (pss_one (ps_ret (pe_lst pa_nil))) pss_nil)
      (pss_one (ps_if (pt_val (pe_call (ok_law_has T) (hr.mono (by first | decide | omega)) (by rfl) T.g_law_has (T.F_law_has).kp T.b_law_has .nil pass0 (pa_cons (pv 0) (pa_cons (pe_ix (r := rIxL K) ix_list (pv 1) (pe_ix (r := rIxL K) ix_list (pv 6) (pv 7) (fun _ _ => rfl)) (fun _ _ => rfl)) (pa_cons pe_str pa_nil))))) (pss_cons (ps_set (i := 9) scLlo.nd rfl (Or.inl rfl) (pe_tup (pa_cons (pe_op op_add (pe_ix (r := rIxT K) ix_tup (pv 8) pe_int (fun _ _ => rfl)) (pv 4)) (pa_cons (pe_op op_add (pe_ix (r := rIxT K) ix_tup (pv 8) pe_int (fun _ _ => rfl)) (pv 5)) (pa_cons (pe_ix (r := rIxT K) ix_tup (pv 8) pe_int (fun _ _ => rfl)) (pa_cons (pe_ix (r := rIxT K) ix_tup (pv 8) pe_int (fun _ _ => rfl)) pa_nil))))))
      (pss_one (ps_for PassesOwn.never rfl (pi_list (pe_call (ok_law_look T) (hr.mono (by first | decide | omega)) (by rfl) T.g_law_look (T.F_law_look).kp T.b_law_look .nil pass0 (pa_cons (pv 0) (pa_cons (pv 1) (pa_cons (pv 2) (pa_cons (pv 9) (pa_cons (pe_callTy call_list_of (by rfl) T.n_list PyProof.Rows.Boot.«list» (pa_cons (pv 6) pa_nil)) pa_nil))))))) (pg_name (i := 10) scLlo.nd rfl (Or.inl rfl)) (pss_one (ps_if (pt_val (pe_call (ok_law_has T) (hr.mono (by first | decide | omega)) (by rfl) T.g_law_has (T.F_law_has).kp T.b_law_has .nil pass0 (pa_cons (pv 0) (pa_cons (pe_ix (r := rIxL K) ix_list (pv 1) (pv 10) (fun _ _ => rfl)) (pa_cons pe_str pa_nil))))) (pss_cons (ps_set (i := 11) scLlo.nd rfl (Or.inl rfl) (pe_and (pe_cmpR op_eq (pv 5) (pe_un un_neg pe_int) (nomark _)) (pe_one (pe_call (ok_law_has T) (hr.mono (by first | decide | omega)) (by rfl) T.g_law_has (T.F_law_has).kp T.b_law_has .nil pass0 (pa_cons (pv 0) (pa_cons (pe_ix (r := rIxL K) ix_list (pv 1) (pv 10) (fun _ _ => rfl)) (pa_cons pe_str pa_nil)))))))
      (pss_cons (ps_if (PW.pt (pw_and (pt_not (pt_val (pv 11))) (pw_and1 (pt_not (pt_val (pe_call (ok_law_has T) (hr.mono (by first | decide | omega)) (by rfl) T.g_law_has (T.F_law_has).kp T.b_law_has .nil pass0 (pa_cons (pv 0) (pa_cons (pe_ix (r := rIxL K) ix_list (pv 1) (pv 10) (fun _ _ => rfl)) (pa_cons pe_str pa_nil))))))))) (pss_one (ps_ret (pe_lst pa_nil))) pss_nil)
      (pss_one (ps_expr (pe_bm PySem.F.plainAttrs_list PySem.F.slot_list_append PySem.F.type_list_append mt_append (pv 6) (pa_cons (pv 10) pa_nil)))))) pss_nil))))) pss_nil)))) pss_nil)))
      (pss_one (ps_ret (pe_callB cr_sorted (by rfl) T.n_sorted PyProof.Rows.Boot.«sorted» (pa_cons (pv 6) pa_nil)))))), ?_⟩
    obtain ⟨kvs0, hk0⟩ := id ks.dict
    refine ⟨_, rfl, (show 1 ≤ sizeLine by decide), fun go ngo => ?_⟩
    have s1 := new_same (o := .lst [.int (s : Int)]) ngo
    have fu : ∀ {H' : Hp} {ob : HO}, Frm sd H H' → Frm sd H (upd H' go ob) := fun f b ob n z => by
      rw [upd_ne (ne_of_none z ngo)]
      exact f b ob n z
    have hgs : go ≠ sd := fun e => by rw [e, hk0] at ngo; cases ngo
    have hdd : -1 ≤ dx ∧ dx ≤ 1 ∧ -1 ≤ dy ∧ dy ≤ 1 := by
      simp only [dirs, List.mem_cons, List.not_mem_nil, or_false, Prod.mk.injEq] at hd
      omega
    refine ⟨16, rfl, by decide, by decide, ?_⟩
    refine L2.for_it (walk_r0 (n := 16)) (fun i σ H' => ∃ (going : List Nat) (v7 v8 v9 v10 v11 : Option V) (pc : Int → Prop), σ = [some g, some (.ref wa), some (.ref sd), some (.int (s : Int)), some (.int dx), some (.int dy), some (.ref go), v7, v8, v9, v10, v11] ∧ H' go = some (.lst (nV going)) ∧ Frm sd H H' ∧ KSet H' sd pc ∧ GoOk sl going (fun _ => True) ∧ lotG G sl dx dy (16 - i) going i = lotG G sl dx dy 16 [s] 0 ∧ ∀ c, (pc c ∨ lotS G sl dx dy (16 - i) going i c) ↔ (p c ∨ lotS G sl dx dy 16 [s] 0 c)) ⟨[s], _, _, _, _, _, _, rfl, upd_same, Frm.of_same s1, ks.same s1, ⟨by simp, fun x hx => ?_, fun _ _ => trivial⟩, rfl, fun c => Iff.rfl⟩ (fun _ _ _ _ _ => trivial) (fun i x σ H4 Hx hi hPv hy => ?_) (fun σ H4 hPv => ?_)
    · obtain rfl : x = s := by simpa using hx
      exact ⟨s16, t, hst⟩
    · obtain ⟨going, v7, v8, v9, v10, v11, pc, rfl, hgo, F, kc, gk, eG, eS⟩ := hPv
      obtain ⟨rfl, rfl⟩ := hy
      have gl := gk.len
      refine ⟨_, rfl, _, rfl, go, _, rfl, .inl (SqL.of hgo), _, _, rfl, rfl, _, rfl, ite2 (fun z => ?_) (fun z => ?_)⟩
      · have z := of_decide_eq_true z
        unfold nV at z
        rw [List.length_map] at z
        have z : i < going.length := by omega
        obtain ⟨n, hn⟩ : ∃ n, 16 - i = n + 1 := ⟨16 - i - 1, by omega⟩
        have hn2 : 16 - (i + 1) = n := by omega
        rw [hn] at eG eS
        have hsi := List.getElem?_eq_getElem z
        obtain ⟨u, hu⟩ : ∃ u, u = going[i] := ⟨_, rfl⟩
        rw [← hu] at hsi
        have hm := List.mem_of_getElem? hsi
        obtain ⟨u16, tu, htu⟩ := gk.th u hm
        have hat : (nV going)[i]? = some (.int (u : Int)) := by
          unfold nV
          rw [List.getElem?_map, hsi]
          rfl
        have tf4 : TF H Hx := Frm.tfk F hk0
        obtain ⟨kd, hkd, _⟩ := (sa.ok tu (List.mem_of_getElem? htu)).kd
        obtain ⟨lim, limd, yh⟩ := (sa.ok tu (List.mem_of_getElem? htu)).lim o
        have ebx : G.bx tu = tu.box kd := by unfold Gm.bx; rw [hkd]
        rw [ebx] at lim limd yh
        have eb := bxS_at (G := G) (sl := sl) htu hkd
        have eh := hsS_at (G := G) (sl := sl) (n := "bars") htu hkd
        have hw4 := hw.frm ks F
        obtain ⟨wv, hwv, wl, hws⟩ := id hw4
        obtain ⟨v, hv1, hv2⟩ := hws u _ htu
        have hv2 : TgAt K Hx v tu := hv2
        refine ⟨_, rfl, _, rfl, _, rfl, _, rfl, go, _, _, _, rfl, rfl, SqL.of hgo, atI_nat hat, wa, _, _, _, rfl, rfl, SqL.of hwv, atI_nat hv1, g, v, G, tu, kd, rfl, hg.tf tf4, hv2, hkd, fun pb H5 s5 hpb => ?_⟩
        have hb5 : BxAt K H5 (.ref pb) (tu.box kd) := ⟨pb, rfl, SqT.of hpb⟩
        refine ⟨_, rfl, _, rfl, _, rfl, _, rfl, g, .ref pb, G, tu.box kd, dx, dy, rfl, hg.tf (tf4.trans (same_tf s5)), o, hb5, lim, limd dx dy hdd.1 hdd.2.1 hdd.2.2.1 hdd.2.2.2, yh, fun H6 s6 => ?_⟩
        have S6 := s5.trans s6
        have F6 := F.trans (Frm.of_same S6)
        have tf6 := tf4.trans (same_tf S6)
        have hgo6 := S6 _ _ hgo
        have kc6 := kc.same S6
        have retE : ∀ {H' : Hp} {q : Addr} {pd : Int → Prop}, joinF G sl dx dy going u = none → Frm sd H H' → KSet H' sd pd → (∀ c, pd c ↔ pc c ∨ joinS G sl dx dy going u c) → H' q = none → Q (.ref q) (upd H' q (.lst [])) := fun {H' q pd} ej f kp ep nq => by
          have sq := new_same (o := .lst []) nq
          refine k q _ (f.trans (Frm.of_same sq)) ((kp.same sq).imp fun c => ?_) ?_ ?_
          · rw [← eS, lotS_none hsi ej, ep]
          · rw [upd_same, lotR, ← eG, lotG_none hsi ej]
            rfl
          · cases e : H q with
            | none => rfl
            | some z =>
              by_cases c : q = sd
              · obtain ⟨_, z⟩ := kp.dict
                rw [c, z] at nq
                cases nq
              · exact absurd ((f _ _ c e).symm.trans nq) (by simp)
        cases hstp : G.stp (tu.box kd) dx dy with
        | true =>
          refine ⟨_, rfl, iteT ⟨(show 0 ≤ sizeLine by decide), fun q nq => retE (H' := H6) (pd := pc) ?_ F6 kc6 (fun c => ?_) nq⟩⟩
          · rw [joinF, eb, hstp]
            rfl
          · rw [joinS, eb, hstp]
            simp
        | false =>
          refine ⟨_, rfl, iteF ?_⟩
          obtain ⟨wv6, hwv6, wl6, hws6⟩ := hw.frm ks F6
          obtain ⟨v6, hv61, hv62⟩ := hws6 u _ htu
          have hv62 : TgAt K H6 v6 tu := hv62
          refine ⟨_, rfl, _, rfl, _, rfl, _, rfl, go, _, _, _, rfl, rfl, SqL.of hgo6, atI_nat hat, wa, _, _, _, rfl, rfl, SqL.of hwv6, atI_nat hv61, g, v6, G, tu, kd, "bars", rfl, hg.tf tf6, hv62, hkd, ?_⟩
          cases hbr : kd.has "bars" with
          | false =>
            have ej : joinF G sl dx dy going u = some [] := by
              rw [joinF, eb, hstp, eh, hbr]
              rfl
            refine ⟨_, rfl, iteF ⟨going, _, _, _, _, _, pc, rfl, hgo6, F6, kc6, gk, ?_, fun c => ?_⟩⟩
            · rw [hn2, ← eG, lotG_some hsi ej, List.append_nil]
            · rw [hn2, ← eS, lotS_some hsi ej, List.append_nil]
              unfold joinS
              rw [eh, hbr]
              simp
          | true =>
            refine ⟨_, rfl, iteT ?_⟩
            have S6b : SqT K H6 pb (tu.box kd).vs := SqT.of (s6 _ _ hpb)
            refine ⟨_, rfl, pb, _, _, _, rfl, rfl, S6b, atI_nat (j := 0) rfl, _, rfl, _, _, rfl, rfl, _, rfl, pb, _, _, _, rfl, rfl, S6b, atI_nat (j := 1) rfl, _, rfl, _, _, rfl, rfl, _, rfl, pb, _, _, _, rfl, rfl, S6b, atI_nat (j := 2) rfl, _, rfl, pb, _, _, _, rfl, rfl, S6b, atI_nat (j := 3) rfl, (show 4 ≤ sizeLine by decide), fun pt npt => ?_⟩
            obtain ⟨B, hB⟩ : ∃ B, B = (tu.box kd).mv dx dy := ⟨_, rfl⟩
            have limB : B.lim := by rw [hB]; exact limd dx dy hdd.1 hdd.2.1 hdd.2.2.1 hdd.2.2.2
            have s7 := new_same (o := .tup B.vs) npt
            have hb7 : BxAt K (upd H6 pt (.tup B.vs)) (.ref pt) B := ⟨pt, rfl, SqT.of upd_same⟩
            have hgo7 := s7 _ _ hgo6
            have e7 : (HO.tup [.int ((tu.box kd).x + dx), .int ((tu.box kd).y + dy), .int (tu.box kd).w, .int (tu.box kd).h]) = .tup B.vs := by rw [hB]; rfl
            show gName 9 _ _ (upd H6 pt (HO.tup [.int ((tu.box kd).x + dx), .int ((tu.box kd).y + dy), .int (tu.box kd).w, .int (tu.box kd).h])) _
            rw [e7]
            refine ⟨_, rfl, _, rfl, _, rfl, _, rfl, _, rfl, go, nV going, rfl, .inl (SqL.of hgo7), fun ql nql => ?_⟩
            have s8 := new_same (o := .lst (nV going)) nql
            have S8 := (S6.trans s7).trans s8
            have F8 := F.trans (Frm.of_same S8)
            have tf8 := tf4.trans (same_tf S8)
            have hqls : ql ≠ sd := fun e => by
              obtain ⟨_, z⟩ := (kc6.same s7).dict
              rw [e, z] at nql
              cases nql
            refine ⟨g, .ref pt, .ref ql, wa, sd, G, sl, B, going, pc, rfl, hg.tf tf8, o, sa, hw.frm ks F8, kc.same S8, hb7.tf (same_tf s8), limB, ⟨ql, rfl, fun H' f => .inl (SqL.of (f _ _ hqls upd_same))⟩, fun q H9 f9 k9 hq nq => ⟨q, rfl, ⟨_, SqL.of hq⟩, ?_⟩⟩
            obtain ⟨L, hL⟩ : ∃ L, L = lookL G sl B going := ⟨_, rfl⟩
            rw [← hL] at hq
            have hLl : L.length ≤ 16 := by rw [hL]; exact look_len G sl B going
            have F9 := F8.trans f9
            have hgo9 := f9 _ _ hgs (s8 _ _ hgo7)
            have hqg : q ≠ go := fun e => by rw [e, s8 _ _ hgo7] at nq; cases nq
            have ep : ∀ c, seenP G sl B going pc c ↔ pc c ∨ joinS G sl dx dy going u c := fun c => by
              unfold joinS seenP
              rw [eb, hstp, eh, hbr, ← hB]
              simp [seenS]
            have ej : joinF G sl dx dy going u = if (barL G sl B going).all (alongS G sl dy) = true then some (barL G sl B going) else none := by
              rw [joinF, eb, hstp, eh, hbr, ← hB]
              rfl
            have eB : barL G sl B going = brI G sl L L.length := by rw [brI, List.take_length, hL, barL]
            rw [eB] at ej
            refine L2.for_it (walk_list (K := K) (a := q) (xs := nV L)) (fun j σ H' => ∃ v10 v11 : Option V, σ = [some g, some (.ref wa), some (.ref sd), some (.int (s : Int)), some (.int dx), some (.int dy), some (.ref go), some (.int (i : Int)), some (.ref pb), some (.ref pt), v10, v11] ∧ H' go = some (.lst (nV (going ++ brI G sl L j))) ∧ Frm sd H H' ∧ KSet H' sd (seenP G sl B going pc) ∧ (brI G sl L j).all (alongS G sl dy) = true ∧ H' q = some (.lst (nV L))) ⟨_, _, rfl, by rw [brI, List.take_zero, List.filter_nil, List.append_nil]; exact hgo9, F9, k9, by rw [brI, List.take_zero]; rfl, hq⟩ (fun j σ H' _ h => by obtain ⟨_, _, _, _, _, _, _, h⟩ := h; exact SqL.of h) (fun j x σ H10 Hy hj hPv hy => ?_) (fun σ H10 hPv => ?_)
            · obtain ⟨v10, v11, rfl, hgA, FA, kA, al, hqA⟩ := hPv
              obtain ⟨rfl, hx⟩ := hy
              unfold nV at hj hx
              rw [List.length_map] at hj
              have hsj := List.getElem?_eq_getElem hj
              obtain ⟨r, hr'⟩ : ∃ r, r = L[j] := ⟨_, rfl⟩
              rw [← hr'] at hsj
              rw [List.getElem?_map, hsj] at hx
              cases hx
              have hrL : r ∈ lookL G sl B going := by rw [← hL]; exact List.mem_of_getElem? hsj
              obtain ⟨r16, _, rn⟩ := look_mem hrL
              obtain ⟨tr, htr⟩ := near_thing rn
              obtain ⟨kr, hkr, _⟩ := (sa.ok tr (List.mem_of_getElem? htr)).kd
              have tfA : TF H Hy := Frm.tfk FA hk0
              obtain ⟨wvA, hwvA, wlA, hwsA⟩ := hw.frm ks FA
              obtain ⟨vr, hvr1, hvr2⟩ := hwsA r _ htr
              have hvr2 : TgAt K Hy vr tr := hvr2
              have e1 := hsS_at (G := G) (sl := sl) (n := "bars") htr hkr
              have e2 := hsS_at (G := G) (sl := sl) (n := "pushed") htr hkr
              have e3 := hsS_at (G := G) (sl := sl) (n := "falls") htr hkr
              refine ⟨_, rfl, _, rfl, _, rfl, wa, _, _, _, rfl, rfl, SqL.of hwvA, atI_nat hvr1, g, vr, G, tr, kr, "bars", rfl, hg.tf tfA, hvr2, hkr, ?_⟩
              cases hb : kr.has "bars" with
              | false =>
                rw [hb] at e1
                exact ⟨_, rfl, iteF ⟨_, _, rfl, by rw [brI_no hsj e1]; exact hgA, FA, kA, by rw [brI_no hsj e1]; exact al, hqA⟩⟩
              | true =>
                rw [hb] at e1
                refine ⟨_, rfl, iteT ?_⟩
                obtain ⟨lf, hlf⟩ : ∃ lf, lf = (decide (dy < 0) && kr.has "falls") := ⟨_, rfl⟩
                have ea : alongS G sl dy r = (kr.has "pushed" || lf) := by rw [alongS, e2, e3, hlf]
                have hdy : dy = -1 ↔ dy < 0 := by
                  simp only [dirs, List.mem_cons, List.not_mem_nil, or_false, Prod.mk.injEq] at hd
                  omega
                refine seq_cut (fun σ' H' => σ' = [some g, some (.ref wa), some (.ref sd), some (.int (s : Int)), some (.int dx), some (.int dy), some (.ref go), some (.int (i : Int)), some (.ref pb), some (.ref pt), some (.int (r : Int)), some (.bl lf)] ∧ H' = Hy) (fun σ' H' hq => ?_) (fun R hR => ?_)
                rotate_left
                · refine ⟨_, rfl, _, rfl, rfl, _, rfl, ite2 (fun z => ?_) (fun z => ?_)⟩
                  · have z : dy < 0 := hdy.mp (by
                      have z := of_decide_eq_true z
                      injection z)
                    refine ⟨_, rfl, _, rfl, _, rfl, wa, _, _, _, rfl, rfl, SqL.of hwvA, atI_nat hvr1, g, vr, G, tr, kr, "falls", rfl, hg.tf tfA, hvr2, hkr, hR _ _ ⟨?_, rfl⟩⟩
                    rw [hlf, decide_eq_true z]
                    rfl
                  · have z : ¬ dy < 0 := fun h => z (decide_eq_true (by rw [hdy.mpr h]))
                    refine hR _ _ ⟨?_, rfl⟩
                    rw [hlf, decide_eq_false z]
                    rfl
                obtain ⟨rfl, rfl⟩ := hq
                refine seq_cut (fun σ1 H1 => σ1 = [some g, some (.ref wa), some (.ref sd), some (.int (s : Int)), some (.int dx), some (.int dy), some (.ref go), some (.int (i : Int)), some (.ref pb), some (.ref pt), some (.int (r : Int)), some (.bl lf)] ∧ H1 = H' ∧ alongS G sl dy r = true) (fun σ1 H1 hq => ?_) (fun R hR => ?_)
                rotate_left
                · cases hlf' : lf with
                  | true =>
                    rw [hlf', Bool.or_true] at ea
                    exact ⟨_, rfl, _, rfl, iteF (hR _ _ ⟨by rw [hlf'], rfl, ea⟩)⟩
                  | false =>
                    rw [hlf', Bool.or_false] at ea
                    refine ⟨_, rfl, _, rfl, iteT ⟨_, rfl, _, rfl, _, rfl, wa, _, _, _, rfl, rfl, SqL.of hwvA, atI_nat hvr1, g, vr, G, tr, kr, "pushed", rfl, hg.tf tfA, hvr2, hkr, ?_⟩⟩
                    cases hp : kr.has "pushed" with
                    | true =>
                      rw [hp] at ea
                      exact ⟨_, rfl, iteF (hR _ _ ⟨by rw [hlf'], rfl, ea⟩)⟩
                    | false =>
                      rw [hp] at ea
                      refine ⟨_, rfl, iteT ⟨(show 0 ≤ sizeLine by decide), fun q nq => retE (H' := H') (pd := seenP G sl B going pc) ?_ FA kA ep nq⟩⟩
                      rw [ej]
                      have e : (brI G sl L L.length).all (alongS G sl dy) = false := by
                        cases e : (brI G sl L L.length).all (alongS G sl dy) with
                        | false => rfl
                        | true =>
                          have hm : r ∈ brI G sl L L.length := by
                            rw [brI, List.take_length, List.mem_filter]
                            exact ⟨List.mem_of_getElem? hsj, e1⟩
                          exact absurd ((List.all_eq_true.mp e r hm).symm.trans ea) (by decide)
                      rw [e]
                      rfl
                obtain ⟨rfl, rfl, ea'⟩ := hq
                refine ⟨_, rfl, .inl ⟨rfl, _, SqL.of hgA⟩, _, rfl, go, _, _, rfl, rfl, hgA, ?_, _, _, rfl, ?_, fu FA, kA.keep (upd_ne (Ne.symm hgs)), ?_, ?_⟩
                · unfold nV
                  rw [List.length_map, List.length_append]
                  have := brI_len (G := G) (sl := sl) (L := L) (j := j)
                  exact Nat.lt_of_le_of_lt (show going.length + (brI G sl L j).length ≤ 32 by omega) (by decide)
                · rw [upd_same, brI_yes hsj e1]
                  unfold nV
                  rw [← List.append_assoc, List.map_append (l₂ := [r])]
                  rfl
                · rw [brI_yes hsj e1, List.all_append, al]
                  simp [ea']
                · rw [upd_ne hqg]
                  exact hqA
            · obtain ⟨v10, v11, rfl, hgA, FA, kA, al, hqA⟩ := hPv
              unfold nV at hgA al
              rw [List.length_map] at hgA al
              rw [al, if_pos rfl] at ej
              refine ⟨_, _, _, _, _, _, _, rfl, hgA, FA, kA, (gk.step ej).mono fun _ _ => trivial, ?_, fun c => ?_⟩
              · rw [hn2, ← eG, lotG_some hsi ej]
              · rw [hn2, ← eS, lotS_some hsi ej, ep, or_assoc]
      · have z : ¬ _ := fun h => z (decide_eq_true h)
        unfold nV at z
        rw [List.length_map] at z
        have z : going.length ≤ i := by omega
        refine ⟨going, _, _, _, _, _, pc, rfl, hgo, F, kc, gk, ?_, fun c => ?_⟩
        · rw [← eG, lotG_end z, lotG_end (by omega)]
        · have := eS c
          rw [lotS_end z] at this
          rw [lotS_end (by omega)]
          exact this
    · obtain ⟨going, v7, v8, v9, v10, v11, pc, rfl, hgo, F, kc, gk, eG, eS⟩ := hPv
      have gl := gk.len
      refine ⟨_, rfl, go, going.map (fun n : Nat => (n : Int)), rfl, SqL.of (by rw [List.map_map]; exact hgo), by rw [List.length_map]; omega, fun ns q hperm hsort nq => ?_⟩
      have sq := new_same (o := .lst (ns.map V.int)) nq
      refine k q _ (F.trans (Frm.of_same sq)) ((kc.same sq).imp fun c => ?_) ?_ ?_
      · have := eS c
        rw [show 16 - 16 = 0 from rfl] at this
        rw [← this]
        show _ ↔ _ ∨ False
        simp
      · rw [upd_same, lotR, ← eG, lotV_some gk hperm hsort]
        rfl
      · cases e : H q with
        | none => rfl
        | some z =>
          by_cases c : q = sd
          · obtain ⟨_, z⟩ := kc.dict
            rw [c, z] at nq
            cases nq
          · exact absurd ((F _ _ c e).symm.trans nq) (by simp)
end
end K22
set_option maxRecDepth 100000
set_option maxHeartbeats 4000000
/-! The law counts a rest. -/
namespace K22
open PySem PySem.Spec PyProof.Rows L2 KF KD KP
theorem brI_head {G : Gm} {sl : List (Option Tg)} {L : List Nat} {j x : Nat} (h : L[j]? = some x) (hb : hsS G sl "bars" x = true) (h0 : brI G sl L j = []) : ∃ tl, L.filter (hsS G sl "bars") = x :: tl := by
  have e : L = L.take (j + 1) ++ L.drop (j + 1) := (List.take_append_drop _ _).symm
  have e1 := brI_yes h hb
  rw [h0] at e1
  unfold brI at e1
  refine ⟨(L.drop (j + 1)).filter (hsS G sl "bars"), ?_⟩
  conv => lhs; rw [e]
  rw [List.filter_append, e1]
  rfl
section
variable {P : Program} {w : World} {K : PySem.W.Frag} {mg : Str → Option Value} {base : Heap}
def spLre (K : PySem.W.Frag) : Sp := fun vs H Q _ => ∃ (g : V) (wa sd : Addr) (G : Gm) (sl : List (Option Tg)) (s : Nat) (t : Tg) (p : Int → Prop), vs = [g, .ref wa, .ref sd, .int (s : Int)] ∧ GmAt K H g G ∧ G.ok ∧ SlAll G sl ∧ s < 16 ∧ sl[s]? = some (some t) ∧ WlAt K H wa sl ∧ KSet H sd p ∧
  ∀ H', Frm sd H H' → KSet H' sd (fun c => p c ∨ restS G sl s c) → Q (.int (restF G sl s)) H'
theorem scLre : FnScope ["game", "w", "seen", "slot", "box", "other"] ["game", "w", "seen", "slot"] (defScope s_law_rest) := ⟨rfl, rfl, rfl, by decide +kernel, rfl, by decide +kernel, by decide +kernel⟩
theorem ok_law_rest (T : Txt K w mg) : FnOk P w K mg base CX0 6 (He.fAd K ("_law_rest", none)) (fdAt K (He.fAd K ("_law_rest", none))) ["game", "w", "seen", "slot"] (spLre K) := by
  refine T.F_law_rest.ok scLre (fun vs H Q E h => ?_) (fun cdv A outer s H vs Q E hr h => ?_)
  · obtain ⟨g, wa, sd, G, sl, s, t, p, rfl, _⟩ := h
    rfl
  · obtain ⟨g, wa, sd, G, sl, s, t, p, rfl, hg, o, sa, s16, hst, hw, ks, k⟩ := h
    refine ⟨_, PSs.nox (pss_cons (ps_if (pt_not (pt_val (pe_call (ok_law_has T) (hr.mono (by first | decide | omega)) (by rfl) T.g_law_has (T.F_law_has).kp T.b_law_has .nil pass0 (pa_cons (pv 0) (pa_cons (pe_ix (r := rIxL K) ix_list (pv 1) (pv 3) (fun _ _ => rfl)) (pa_cons pe_str pa_nil)))))) (pss_one (ps_ret (pe_un un_neg pe_int))) pss_nil)
      (pss_cons (ps_set (i := 4) scLre.nd rfl (Or.inl rfl) (pe_call (ok_law_box T) (hr.mono (by first | decide | omega)) (by rfl) T.g_law_box (T.F_law_box).kp T.b_law_box .nil pass0 (pa_cons (pv 0) (pa_cons (pe_ix (r := rIxL K) ix_list (pv 1) (pv 3) (fun _ _ => rfl)) pa_nil))))
      (pss_cons (ps_if (pt_val (pe_call (ok_law_stops T) (hr.mono (by first | decide | omega)) (by rfl) T.g_law_stops (T.F_law_stops).kp T.b_law_stops .nil pass0 (pa_cons (pv 0) (pa_cons (pv 4) (pa_cons pe_int (pa_cons pe_int pa_nil)))))) (pss_one (ps_ret (pe_un un_neg pe_int))) pss_nil)
      (pss_cons (ps_if (pt_val (pe_call (ok_law_has T) (hr.mono (by first | decide | omega)) (by rfl) T.g_law_has (T.F_law_has).kp T.b_law_has .nil pass0 (pa_cons (pv 0) (pa_cons (pe_ix (r := rIxL K) ix_list (pv 1) (pv 3) (fun _ _ => rfl)) (pa_cons pe_str pa_nil))))) (pss_one (ps_for PassesOwn.never rfl (pi_list (pe_call (ok_law_look T) (hr.mono (by first | decide | omega)) (by rfl) T.g_law_look (T.F_law_look).kp T.b_law_look .nil pass0 (pa_cons (pv 0) (pa_cons (pv 1) (pa_cons (pv 2) (pa_cons (pe_tup (pa_cons (pe_ix (r := rIxT K) ix_tup (pv 4) pe_int (fun _ _ => rfl)) (pa_cons (pe_op op_add (pe_ix (r := rIxT K) ix_tup (pv 4) pe_int (fun _ _ => rfl)) pe_int) (pa_cons (pe_ix (r := rIxT K) ix_tup (pv 4) pe_int (fun _ _ => rfl)) (pa_cons (pe_ix (r := rIxT K) ix_tup (pv 4) pe_int (fun _ _ => rfl)) pa_nil))))) (pa_cons (pe_lst (pa_cons (pv 3) pa_nil)) pa_nil))))))) (pg_name (i := 5) scLre.nd rfl (Or.inl rfl)) (pss_one (ps_if (pt_val (pe_call (ok_law_has T) (hr.mono (by first | decide | omega)) (by rfl) T.g_law_has (T.F_law_has).kp T.b_law_has .nil pass0 (pa_cons (pv 0) (pa_cons (pe_ix (r := rIxL K) ix_list (pv 1) (pv 5) (fun _ _ => rfl)) (pa_cons pe_str pa_nil))))) (pss_one (ps_ret (pv 5))) pss_nil)))) pss_nil)
      (pss_one (ps_ret (pe_un un_neg pe_int))))))), ?_⟩
    obtain ⟨kvs0, hk0⟩ := id ks.dict
    obtain ⟨kd, hkd, _⟩ := (sa.ok t (List.mem_of_getElem? hst)).kd
    obtain ⟨lim, limd, yh⟩ := (sa.ok t (List.mem_of_getElem? hst)).lim o
    have ebx : G.bx t = t.box kd := by unfold Gm.bx; rw [hkd]
    rw [ebx] at lim limd yh
    have eb := bxS_at (G := G) (sl := sl) hst hkd
    have ef := hsS_at (G := G) (sl := sl) (n := "falls") hst hkd
    have eh := hsS_at (G := G) (sl := sl) (n := "bars") hst hkd
    obtain ⟨wv, hwv, wl, hws⟩ := id hw
    obtain ⟨v, hv1, hv2⟩ := hws s _ hst
    have hv2 : TgAt K H v t := hv2
    have P0 : ∀ {H' : Hp}, Same H H' → (∀ c, restS G sl s c ↔ False) → KSet H' sd (fun c => p c ∨ restS G sl s c) := fun s e => (ks.same s).imp fun c => by
      rw [e]
      simp
    refine ⟨_, rfl, _, rfl, _, rfl, wa, _, _, _, rfl, rfl, SqL.of hwv, atI_nat hv1, g, v, G, t, kd, "falls", rfl, hg, hv2, hkd, ?_⟩
    cases hf : kd.has "falls" with
    | false =>
      have e : restF G sl s = -2 := by
        rw [restF, ef, hf]
        rfl
      rw [e] at k
      exact ⟨_, rfl, iteT ⟨_, rfl, k H (Frm.refl _ _) (P0 (Same.refl _) fun c => by rw [restS, ef, hf]; simp)⟩⟩
    | true =>
      refine ⟨_, rfl, iteF ?_⟩
      refine ⟨_, rfl, _, rfl, _, rfl, wa, _, _, _, rfl, rfl, SqL.of hwv, atI_nat hv1, g, v, G, t, kd, rfl, hg, hv2, hkd, fun pb H3 s3 hpb => ?_⟩
      have hb3 : BxAt K H3 (.ref pb) (t.box kd) := ⟨pb, rfl, SqT.of hpb⟩
      refine ⟨_, rfl, _, rfl, g, .ref pb, G, t.box kd, 0, 1, rfl, hg.tf (same_tf s3), o, hb3, lim, limd 0 1 (by decide) (by decide) (by decide) (by decide), yh, fun H4 s4 => ?_⟩
      have S4 := s3.trans s4
      cases hst' : G.stp (t.box kd) 0 1 with
      | true =>
        have e : restF G sl s = -1 := by
          rw [restF, ef, hf, eb, hst']
          rfl
        rw [e] at k
        exact ⟨_, rfl, iteT ⟨_, rfl, k H4 (Frm.of_same S4) (P0 S4 fun c => by rw [restS, joinS, eb, hst']; simp)⟩⟩
      | false =>
        refine ⟨_, rfl, iteF ?_⟩
        have S4b : SqT K H4 pb (t.box kd).vs := SqT.of (s4 _ _ hpb)
        have hw4 := hw.frm ks (Frm.of_same S4)
        obtain ⟨wv4, hwv4, _, hws4⟩ := id hw4
        obtain ⟨v4, hv41, hv42⟩ := hws4 s _ hst
        have hv42 : TgAt K H4 v4 t := hv42
        refine ⟨_, rfl, _, rfl, _, rfl, wa, _, _, _, rfl, rfl, SqL.of hwv4, atI_nat hv41, g, v4, G, t, kd, "bars", rfl, hg.tf (same_tf S4), hv42, hkd, ?_⟩
        cases hbr : kd.has "bars" with
        | false =>
          have e : restF G sl s = -2 := by
            rw [restF, ef, hf, eb, hst', eh, hbr]
            rfl
          rw [e] at k
          exact ⟨_, rfl, iteF ⟨_, rfl, k H4 (Frm.of_same S4) (P0 S4 fun c => by rw [restS, joinS, eh, hbr]; simp)⟩⟩
        | true =>
          have e : restF G sl s = (match barL G sl ((t.box kd).mv 0 1) [s] with
            | h :: _ => (h : Int)
            | [] => -2) := by
            rw [restF, ef, hf, eb, hst', eh, hbr]
            rfl
          have eS : ∀ c, seenP G sl ((t.box kd).mv 0 1) [s] p c ↔ (p c ∨ restS G sl s c) := fun c => by
            unfold restS joinS seenP seenS
            rw [ef, hf, eb, hst', eh, hbr]
            simp
          refine ⟨_, rfl, iteT ?_⟩
          refine ⟨_, rfl, _, rfl, _, rfl, _, rfl, pb, _, _, _, rfl, rfl, S4b, atI_nat (j := 0) rfl, _, rfl, pb, _, _, _, rfl, rfl, S4b, atI_nat (j := 1) rfl, _, _, rfl, rfl, _, rfl, pb, _, _, _, rfl, rfl, S4b, atI_nat (j := 2) rfl, _, rfl, pb, _, _, _, rfl, rfl, S4b, atI_nat (j := 3) rfl, (show 4 ≤ sizeLine by decide), fun pt npt => ?_⟩
          refine ⟨_, rfl, (show 1 ≤ sizeLine by decide), fun ql nql => ?_⟩
          have hmv : (t.box kd).mv 0 1 = ⟨(t.box kd).x, (t.box kd).y + 1, (t.box kd).w, (t.box kd).h⟩ := by
            unfold Bx.mv
            rw [Int.add_zero]
          have limB := limd 0 1 (by decide) (by decide) (by decide) (by decide)
          rw [hmv] at e eS limB
          have S6 := (S4.trans (new_same npt)).trans (new_same (o := .lst (nV [s])) nql)
          have F6 := Frm.of_same (d := sd) S6
          have hqls : ql ≠ sd := fun e => by
            rw [e] at nql
            rw [(new_same npt) _ _ (S4 _ _ hk0)] at nql
            cases nql
          refine ⟨g, .ref pt, .ref ql, wa, sd, G, sl, ⟨(t.box kd).x, (t.box kd).y + 1, (t.box kd).w, (t.box kd).h⟩, [s], p, rfl, hg.tf (same_tf S6), o, sa, hw.frm ks F6, ks.same S6, ⟨pt, rfl, SqT.of (new_same nql _ _ upd_same)⟩, limB, ⟨ql, rfl, fun H' f => .inl (SqL.of (f _ _ hqls upd_same))⟩, fun q H7 f7 k7 hq nq => ⟨q, rfl, ⟨_, SqL.of hq⟩, ?_⟩⟩
          obtain ⟨B, hB⟩ : ∃ B : Bx, B = ⟨(t.box kd).x, (t.box kd).y + 1, (t.box kd).w, (t.box kd).h⟩ := ⟨_, rfl⟩
          rw [← hB] at e eS hq k7
          have F7 := F6.trans f7
          obtain ⟨L, hL⟩ : ∃ L, L = lookL G sl B [s] := ⟨_, rfl⟩
          rw [← hL] at hq
          have eB : barL G sl B [s] = L.filter (hsS G sl "bars") := by rw [barL, hL]
          rw [eB] at e
          have k7 := k7.imp eS
          have tf7 : TF H H7 := Frm.tfk F7 hk0
          have hw7 := hw.frm ks F7
          refine L2.for_it (walk_list (K := K) (a := q) (xs := nV L)) (fun j σ H' => ∃ v5 : Option V, σ = [some g, some (.ref wa), some (.ref sd), some (.int (s : Int)), some (.ref pb), v5] ∧ H' = H7 ∧ brI G sl L j = []) ⟨_, rfl, rfl, by rw [brI, List.take_zero]; rfl⟩ (fun j σ H' _ h => by obtain ⟨_, _, rfl, _⟩ := h; exact SqL.of hq) (fun j x σ H10 Hy hj hPv hy => ?_) (fun σ H10 hPv => ?_)
          · obtain ⟨v5, rfl, rfl, h0⟩ := hPv
            obtain ⟨rfl, hx⟩ := hy
            unfold nV at hj hx
            rw [List.length_map] at hj
            have hsj := List.getElem?_eq_getElem hj
            obtain ⟨r, hr'⟩ : ∃ r, r = L[j] := ⟨_, rfl⟩
            rw [← hr'] at hsj
            rw [List.getElem?_map, hsj] at hx
            cases hx
            have hrL : r ∈ lookL G sl B [s] := by rw [← hL]; exact List.mem_of_getElem? hsj
            obtain ⟨r16, _, rn⟩ := look_mem hrL
            obtain ⟨tr, htr⟩ := near_thing rn
            obtain ⟨kr, hkr, _⟩ := (sa.ok tr (List.mem_of_getElem? htr)).kd
            obtain ⟨wvA, hwvA, wlA, hwsA⟩ := id hw7
            obtain ⟨vr, hvr1, hvr2⟩ := hwsA r _ htr
            have hvr2 : TgAt K Hy vr tr := hvr2
            have e1 := hsS_at (G := G) (sl := sl) (n := "bars") htr hkr
            refine ⟨_, rfl, _, rfl, _, rfl, wa, _, _, _, rfl, rfl, SqL.of hwvA, atI_nat hvr1, g, vr, G, tr, kr, "bars", rfl, hg.tf tf7, hvr2, hkr, ?_⟩
            cases hb : kr.has "bars" with
            | false =>
              rw [hb] at e1
              exact ⟨_, rfl, iteF ⟨_, rfl, rfl, by rw [brI_no hsj e1]; exact h0⟩⟩
            | true =>
              rw [hb] at e1
              obtain ⟨tl, htl⟩ := brI_head hsj e1 h0
              rw [htl] at e
              have k := k Hy F7 k7
              rw [e] at k
              exact ⟨_, rfl, iteT ⟨_, rfl, k⟩⟩
          · obtain ⟨v5, rfl, rfl, h0⟩ := hPv
            unfold nV at h0
            rw [List.length_map, brI, List.take_length] at h0
            rw [h0] at e
            have k := k H10 F7 k7
            rw [e] at k
            exact ⟨_, rfl, k⟩
end
end K22
set_option maxRecDepth 100000
set_option maxHeartbeats 4000000
/-! Buckets that are filled. -/
namespace K22
open PySem PySem.Spec PyProof.Rows L2 KF KD KP
theorem rngI_lt (lo hi : Int) : (rngI lo hi).Pairwise (· < ·) := by
  rw [rngI, List.pairwise_map]
  exact (List.pairwise_lt_range (n := (hi - lo).toNat)).imp fun h => by omega
theorem blk_nd {G : Gm} {b : Bx} (o : G.ok) (l : b.lim) : (G.blk b).Nodup := by
  unfold Gm.blk
  split
  · rename_i m
    have bl := blim o l m
    have h1 := bl.c
    rw [List.Nodup, List.pairwise_flatMap]
    refine ⟨fun r _ => ?_, (rngI_lt _ _).imp fun {r1 r2} h x hx y hy => ?_⟩
    · rw [Gm.bkr, List.pairwise_map]
      exact (rngI_lt _ _).imp fun h z => by omega
    · rw [Gm.bkr, List.mem_map] at hx hy
      obtain ⟨c1, k1, rfl⟩ := hx
      obtain ⟨c2, k2, rfl⟩ := hy
      have k1 := rngI_mem.mp k1
      have k2 := rngI_mem.mp k2
      have e2 : G.bw * r1 + G.bw ≤ G.bw * r2 := by
        have : G.bw * (r1 + 1) ≤ G.bw * r2 := Int.mul_le_mul_of_nonneg_left (by omega) (by omega)
        rw [Int.mul_add, Int.mul_one] at this
        exact this
      omega
  · exact List.nodup_nil
structure BkAt (H0 H : Hp) (b : Addr) (as : List Addr) (f : Nat → List Nat) : Prop where
  li : H b = some (.lst (as.map V.ref))
  nd : as.Nodup
  nb : ∀ a ∈ as, a ≠ b ∧ H0 a = none
  b0 : H0 b = none
  sm : Same H0 H
  at' : ∀ (k : Nat) (a : Addr), as[k]? = some a → H a = some (.lst (nV (f k)))
theorem BkAt.same {H0 H H' : Hp} {b : Addr} {as : List Addr} {f : Nat → List Nat} (h : BkAt H0 H b as f) (s : Same H H') : BkAt H0 H' b as f :=
  ⟨s _ _ h.li, h.nd, h.nb, h.b0, h.sm.trans s, fun k a z => s _ _ (h.at' k a z)⟩
theorem BkAt.imp {H0 H : Hp} {b : Addr} {as : List Addr} {f g : Nat → List Nat} (h : BkAt H0 H b as f) (e : ∀ k, k < as.length → f k = g k) : BkAt H0 H b as g :=
  ⟨h.li, h.nd, h.nb, h.b0, h.sm, fun k a z => by rw [← e k (List.getElem?_eq_some_iff.mp z).1]; exact h.at' k a z⟩
theorem bk_nil {H0 : Hp} {b : Addr} {f : Nat → List Nat} (h : H0 b = none) : BkAt H0 (upd H0 b (.lst [])) b [] f := ⟨upd_same, List.nodup_nil, fun _ h => (List.not_mem_nil h).elim, h, new_same h, fun _ _ h => by cases h⟩
theorem bk_new {H0 H : Hp} {b q : Addr} {as : List Addr} (h : BkAt H0 H b as fun _ => []) (nq : H q = none) : BkAt H0 (upd (upd H q (.lst [])) b (.lst (as.map V.ref ++ [.ref q]))) b (as ++ [q]) fun _ => [] := by
  have q0 : H0 q = none := by
    cases e : H0 q with
    | none => rfl
    | some z => exact absurd ((h.sm _ _ e).symm.trans nq) (by simp)
  have qb : q ≠ b := fun e => by rw [e, h.li] at nq; cases nq
  have qa : ∀ a ∈ as, a ≠ q := fun a ha e => by
    obtain ⟨k, hk⟩ := List.mem_iff_getElem?.mp ha
    rw [e] at hk
    rw [h.at' k q hk] at nq
    cases nq
  refine ⟨by rw [upd_same, List.map_append]; rfl, ?_, fun a ha => ?_, h.b0, fun c o z => ?_, fun k a z => ?_⟩
  · rw [List.nodup_append]
    exact ⟨h.nd, by simp, fun x hx y hy e => qa x hx (by rw [e]; simpa using hy)⟩
  · rcases List.mem_append.mp ha with ha | ha
    · exact h.nb a ha
    · obtain rfl : a = q := by simpa using ha
      exact ⟨qb, q0⟩
  · rw [upd_ne (ne_of_none z h.b0), upd_ne (ne_of_none z q0)]
    exact h.sm _ _ z
  · by_cases hk : k < as.length
    · rw [List.getElem?_append_left hk] at z
      have hm := List.mem_of_getElem? z
      rw [upd_ne (h.nb a hm).1, upd_ne (qa a hm)]
      exact h.at' k a z
    · rw [List.getElem?_append_right (by omega)] at z
      have hz : a = q := by
        cases hd : k - as.length with
        | zero =>
          rw [hd] at z
          exact (by simpa using z.symm)
        | succ n =>
          rw [hd] at z
          cases z
      subst hz
      rw [upd_ne qb, upd_same]
      rfl
theorem bk_put {H0 H : Hp} {b a : Addr} {as : List Addr} {f : Nat → List Nat} {k : Nat} {xs : List Nat} (h : BkAt H0 H b as f) (ha : as[k]? = some a) : BkAt H0 (upd H a (.lst (nV xs))) b as fun j => if j = k then xs else f j := by
  have hm := List.mem_of_getElem? ha
  have n := h.nb a hm
  refine ⟨by rw [upd_ne (Ne.symm n.1)]; exact h.li, h.nd, h.nb, h.b0, fun c o z => ?_, fun j c z => ?_⟩
  · rw [upd_ne (ne_of_none z n.2)]
    exact h.sm _ _ z
  · by_cases e : j = k
    · subst e
      rw [ha] at z
      injection z with z
      subst z
      rw [upd_same, if_pos rfl]
    · rw [if_neg e, upd_ne]
      · exact h.at' j c z
      · intro c1
        subst c1
        have hj := (List.getElem?_eq_some_iff.mp z)
        have hk := (List.getElem?_eq_some_iff.mp ha)
        exact e ((List.getElem_inj h.nd).mp (hj.2.trans hk.2.symm))
/-- what a bucket has at slot i, cell j of the thing -/
def bkI (G : Gm) (sl : List (Option Tg)) (i : Nat) (k : Nat) : List Nat := (List.range i).filter (inB G sl (49 + (k : Int)))
def bkJ (G : Gm) (sl : List (Option Tg)) (i : Nat) (cs : List Int) (k : Nat) : List Nat := bkI G sl i k ++ (if 49 + (k : Int) ∈ cs then [i] else [])
theorem bkJ_nil {G : Gm} {sl : List (Option Tg)} {i k : Nat} : bkI G sl i k = bkJ G sl i [] k := by
  rw [bkJ, if_neg List.not_mem_nil, List.append_nil]
theorem bkJ_all {G : Gm} {sl : List (Option Tg)} {i k : Nat} {t : Tg} {kd : Kd} (h : sl[i]? = some (some t)) (hk : G.kds[t.k]? = some kd) : bkJ G sl i (G.blk (t.box kd)) k = bkI G sl (i + 1) k := by
  have e : inB G sl (49 + (k : Int)) i = decide (49 + (k : Int) ∈ G.blk (t.box kd)) := by
    unfold inB
    rw [h]
    dsimp only
    rw [Gm.bx, hk]
  rw [bkJ, bkI, bkI, List.range_succ, List.filter_append]
  by_cases c : 49 + (k : Int) ∈ G.blk (t.box kd)
  · rw [if_pos c]
    simp [e, c]
  · rw [if_neg c]
    simp [e, c]
theorem bkI_none {G : Gm} {sl : List (Option Tg)} {i k : Nat} (h : sl[i]? = some none) : bkI G sl i k = bkI G sl (i + 1) k := by
  have e : inB G sl (49 + (k : Int)) i = false := by
    unfold inB
    rw [h]
  rw [bkI, bkI, List.range_succ, List.filter_append]
  simp [e]
theorem bkJ_step {G : Gm} {sl : List (Option Tg)} {i j k n : Nat} {cs : List Int} (nd : cs.Nodup) (h : cs[j]? = some (49 + (n : Int))) : (if k = n then bkJ G sl i (cs.take j) n ++ [i] else bkJ G sl i (cs.take j) k) = bkJ G sl i (cs.take (j + 1)) k := by
  have hj := (List.getElem?_eq_some_iff.mp h)
  have nin : 49 + (n : Int) ∉ cs.take j := fun hm => by
    obtain ⟨l, hl⟩ := List.mem_iff_getElem?.mp hm
    rw [List.getElem?_take] at hl
    split at hl
    · rename_i hlt
      have hl' := (List.getElem?_eq_some_iff.mp hl)
      have := (List.getElem_inj nd).mp (hl'.2.trans hj.2.symm)
      omega
    · cases hl
  rw [List.take_add_one, h, Option.toList_some]
  unfold bkJ
  by_cases e : k = n
  · subst e
    rw [if_pos rfl, if_neg nin, if_pos (by simp)]
    simp
  · rw [if_neg e]
    congr 1
    have : (49 + (k : Int) ∈ cs.take j ++ [49 + (n : Int)]) ↔ 49 + (k : Int) ∈ cs.take j := by
      simp only [List.mem_append, List.mem_singleton]
      exact ⟨fun z => z.elim id fun z => absurd z (by omega), .inl⟩
    by_cases c : 49 + (k : Int) ∈ cs.take j
    · rw [if_pos c, if_pos (this.mpr c)]
    · rw [if_neg c, if_neg (fun z => c (this.mp z))]
theorem bkI_len {G : Gm} {sl : List (Option Tg)} {i k : Nat} : (bkI G sl i k).length ≤ i := Nat.le_trans (List.length_filter_le _ _) (by rw [List.length_range]; exact Nat.le_refl _)
theorem bkJ_len {G : Gm} {sl : List (Option Tg)} {i k : Nat} {cs : List Int} : (bkJ G sl i cs k).length ≤ i + 1 := by
  rw [bkJ, List.length_append]
  have := bkI_len (G := G) (sl := sl) (i := i) (k := k)
  split <;> simp <;> omega
section
end
end K22
set_option maxRecDepth 100000
set_option maxHeartbeats 4000000
/-! Equal, and of one kind. -/
namespace K22
open PySem PySem.Spec PyProof.Rows L2 KF KD KP
theorem walk_zipT {K : PySem.W.Frag} {a b : Addr} {xs ys : List V} {n : Nat} (hn : n = min xs.length ys.length) : Walk (RZ.ItzT K a b) n (fun H => SqT K H a xs ∧ SqT K H b ys) (YPair (fun i => xs[i]?) (fun i => ys[i]?)) := by
  subst hn
  refine ⟨fun i _ hi q => ?_, fun _ q => ⟨xs, ys, q.1, q.2, by omega⟩, fun i H v H' _ q y => ?_⟩
  · have h1 : i < xs.length := by omega
    have h2 : i < ys.length := by omega
    exact ⟨xs, ys, xs[i], ys[i], q.1, q.2, by simp [h1], by simp [h2]⟩
  · obtain ⟨T, x, z, h1, h2, h3, h4, h5⟩ := y
    exact ⟨T, x, z, h1, h2, h3, h4 xs q.1, h5 ys q.2⟩
def AlOk : Nat → PyData → Prop
  | _, .none => True
  | _, .int _ => True
  | n + 1, .tuple ds => ds.length ≤ 1000 ∧ ∀ e ∈ ds, AlOk n e
  | _, _ => False
theorem nls_of : ∀ {ds : List PyData}, (∀ e ∈ ds, NL e) → NLs ds
  | [], _ => trivial
  | d :: ds, h => ⟨h d List.mem_cons_self, nls_of fun e he => h e (List.mem_cons_of_mem _ he)⟩
theorem alok_nl : ∀ (n : Nat) (d : PyData), AlOk n d → NL d
  | _, .none, _ => trivial
  | _, .int _, _ => trivial
  | n + 1, .tuple ds, h => nls_of fun e he => alok_nl n e (h.2 e he)
  | 0, .tuple _, h => h.elim
  | 0, .bool _, h => h.elim
  | _ + 1, .bool _, h => h.elim
  | 0, .str _, h => h.elim
  | _ + 1, .str _, h => h.elim
  | 0, .list _, h => h.elim
  | _ + 1, .list _, h => h.elim
  | 0, .dict _, h => h.elim
  | _ + 1, .dict _, h => h.elim
def spSame (K : PySem.W.Frag) (n : Nat) : Sp := fun vs H Q _ => ∃ (v1 v2 : V) (d : PyData), vs = [v1, v2] ∧ Dp K H v1 d ∧ Dp K H v2 d ∧ AlOk n d ∧ ∀ H', Same H H' → Q (.bl true) H'
def spSm (K : PySem.W.Frag) : Nat → Sp
  | 0 => fun _ _ _ _ => False
  | n + 1 => spSame K n
section
variable {P : Program} {w : World} {K : PySem.W.Frag} {mg : Str → Option Value} {base : Heap}
theorem scSm : FnScope ["one", "other", "a", "b"] ["one", "other"] (defScope s_law_same) := ⟨rfl, rfl, rfl, by decide +kernel, rfl, by decide +kernel, by decide +kernel⟩
theorem ok_law_same (T : Txt K w mg) : ∀ n : Nat, FnOk P w K mg base CX0 n (He.fAd K ("_law_same", none)) (fdAt K (He.fAd K ("_law_same", none))) ["one", "other"] (spSm K n)
  | 0 => ⟨fun _ _ _ _ z => z.elim, fun _ _ _ _ _ _ _ _ _ _ _ _ _ z => z.elim⟩
  | n + 1 => by
    have G := ok_law_same T n
    refine T.F_law_same.ok scSm (fun vs H Q E h => ?_) (fun cdv A outer s H vs Q E hr h => ?_)
    · obtain ⟨v1, v2, d, rfl, _⟩ := h
      rfl
    · obtain ⟨v1, v2, d, rfl, h1, h2, hp, k⟩ := h
      refine ⟨_, PSs.nox (pss_cons (ps_if (PW.pt (pw_or (pt_val (pe_callB (r := rIsi K) call_isi (by rfl) T.n_isinstance PyProof.Rows.Boot.«isinstance» (pa_cons (pv 1) (pa_cons (pe_bltn (v := .ty "tuple") (by rfl) T.n_tuple PyProof.Rows.Boot.«tuple» rfl) pa_nil)))) (pw_or1 (pt_val (pe_callB (r := rIsi K) call_isi (by rfl) T.n_isinstance PyProof.Rows.Boot.«isinstance» (pa_cons (pv 1) (pa_cons (pe_bltn (v := .ty "list") (by rfl) T.n_list PyProof.Rows.Boot.«list» rfl) pa_nil))))))) (pss_cons (ps_if (PW.pt (pw_or (pt_cmpR op_ne (pe_callB (r := rIsi K) call_isi (by rfl) T.n_isinstance PyProof.Rows.Boot.«isinstance» (pa_cons (pv 0) (pa_cons (pe_bltn (v := .ty "list") (by rfl) T.n_list PyProof.Rows.Boot.«list» rfl) pa_nil))) (pe_callB (r := rIsi K) call_isi (by rfl) T.n_isinstance PyProof.Rows.Boot.«isinstance» (pa_cons (pv 1) (pa_cons (pe_bltn (v := .ty "list") (by rfl) T.n_list PyProof.Rows.Boot.«list» rfl) pa_nil))) (nomark _)) (pw_or1 (pt_not (pt_val (pe_callB (r := rIsiT K) call_isiT (by rfl) T.n_isinstance PyProof.Rows.Boot.«isinstance» (pa_cons (pv 0) (pa_cons (pe_tup (pa_cons (pe_bltn (v := .ty "list") (by rfl) T.n_list PyProof.Rows.Boot.«list» rfl) (pa_cons (pe_bltn (v := .ty "tuple") (by rfl) T.n_tuple PyProof.Rows.Boot.«tuple» rfl) pa_nil))) pa_nil)))))))) (pss_one (ps_ret pe_bl)) pss_nil)
      (pss_one (ps_ret (pe_and (pe_cmpR op_eq (pe_callB (r := Evl.rLenS K) call_len_seq (by rfl) T.n_len PyProof.Rows.Boot.«len» (pa_cons (pv 0) pa_nil)) (pe_callB (r := Evl.rLenS K) call_len_seq (by rfl) T.n_len PyProof.Rows.Boot.«len» (pa_cons (pv 1) pa_nil)) (nomark _)) (pe_one (pe_callB (cr_all rfl) (by rfl) T.n_all PyProof.Rows.Boot.«all» (pa_cons (pe_lc (own := [("a", 2), ("b", 3)]) (g := gTup K 2 (gCons (gName 2) (gCons (gName 3) gNil))) (tt := tYes) (by rfl) scSm.nd (RZ.pi_zipA (by rfl) T.n_zip (pa_cons (pv 0) (pa_cons (pv 1) pa_nil))) (blkOk_by (own := [("a", 2), ("b", 3)]) (N := ["one", "other", "a", "b"]) (sc := defScope s_law_same) (by decide +kernel)) (fun _ _ _ _ _ => (pg_tup (by rfl) (pgs_cons (pg_name (i := 2) scSm.nd rfl (Or.inl rfl)) (pgs_cons (pg_name (i := 3) scSm.nd rfl (Or.inl rfl)) pgs_nil)))) (fun _ _ _ _ _ => pts_nil) (fun _ _ _ _ _ => (pe_call G (hr.mono (by first | decide | omega)) (by rfl) T.g_law_same (T.F_law_same).kp T.b_law_same .nil pass0 (pa_cons (pv 2) (pa_cons (pv 3) pa_nil))))) pa_nil))))))) pss_nil)
      (pss_cons (ps_if (PW.pt (pw_or (pt_cmpR op_ne (pe_callB (r := rIsi K) call_isi (by rfl) T.n_isinstance PyProof.Rows.Boot.«isinstance» (pa_cons (pv 0) (pa_cons (pe_bltn (v := .ty "bool") (by rfl) T.n_bool PyProof.Rows.Boot.«bool» rfl) pa_nil))) (pe_callB (r := rIsi K) call_isi (by rfl) T.n_isinstance PyProof.Rows.Boot.«isinstance» (pa_cons (pv 1) (pa_cons (pe_bltn (v := .ty "bool") (by rfl) T.n_bool PyProof.Rows.Boot.«bool» rfl) pa_nil))) (nomark _)) (pw_or1 (pt_val (pe_callB (r := rIsiT K) call_isiT (by rfl) T.n_isinstance PyProof.Rows.Boot.«isinstance» (pa_cons (pv 0) (pa_cons (pe_tup (pa_cons (pe_bltn (v := .ty "list") (by rfl) T.n_list PyProof.Rows.Boot.«list» rfl) (pa_cons (pe_bltn (v := .ty "tuple") (by rfl) T.n_tuple PyProof.Rows.Boot.«tuple» rfl) pa_nil))) pa_nil))))))) (pss_one (ps_ret pe_bl)) pss_nil)
      (pss_one (ps_ret (pe_cmpR op_eq (pv 0) (pv 1) (nomark _)))))), ?_⟩
      have pr : Paired ClsV [.ty "list", .ty "tuple"] [.type "list", .type "tuple"] := .cons (.ty _) (.cons (.ty _) .nil)
      have tA : ∀ {tn : String} {b1 b2 : Bool}, kitB tn "list" = some b1 → kitB tn "tuple" = some b2 → PySem.W.kitAny K (.type tn) [.type "list", .type "tuple"] = some (b1 || b2) := fun {tn b1 b2} k1 k2 => by
        refine kitAny_cons (kit_ty k1) (fun e => ?_) (fun e => by rw [e]; rfl)
        exact kitAny_cons (kit_ty k2) (fun e2 => by rw [e, e2]; exact kitAny_nil) (fun e2 => by rw [e2, Bool.or_true])
      cases d with
      | none =>
        cases h1
        cases h2
        refine ⟨_, rfl, _, _, _, _, _, rfl, .ty "tuple", .base .non, kit_ty (r := false) (by decide +kernel), _, rfl, iteF ⟨_, rfl, _, _, _, _, _, rfl, .ty "list", .base .non, kit_ty (r := false) (by decide +kernel), _, rfl, iteF ?_⟩⟩
        refine ⟨_, rfl, _, _, _, _, _, rfl, .ty "bool", .base .non, kit_ty (r := false) (by decide +kernel), _, rfl, _, _, _, _, _, rfl, .ty "bool", .base .non, kit_ty (r := false) (by decide +kernel), rfl, _, rfl, ?_⟩
        refine ite2 (fun z => absurd z (by decide)) (fun _ => ⟨_, rfl, (show 2 ≤ sizeLine by decide), fun tp ntp => ?_⟩)
        refine ⟨_, tp, _, _, _, false, rfl, upd_same, pr, .base .non, tA (b1 := false) (b2 := false) (by decide +kernel) (by decide +kernel), _, rfl, iteF ⟨_, rfl, _, rfl, rfl, ?_⟩⟩
        exact k _ (new_same ntp)
      | int i =>
        cases h1
        cases h2
        refine ⟨_, rfl, _, _, _, _, _, rfl, .ty "tuple", .base (.int i), kit_ty (r := false) (by decide +kernel), _, rfl, iteF ⟨_, rfl, _, _, _, _, _, rfl, .ty "list", .base (.int i), kit_ty (r := false) (by decide +kernel), _, rfl, iteF ?_⟩⟩
        refine ⟨_, rfl, _, _, _, _, _, rfl, .ty "bool", .base (.int i), kit_ty (r := false) (by decide +kernel), _, rfl, _, _, _, _, _, rfl, .ty "bool", .base (.int i), kit_ty (r := false) (by decide +kernel), rfl, _, rfl, ?_⟩
        refine ite2 (fun z => absurd z (by decide)) (fun _ => ⟨_, rfl, (show 2 ≤ sizeLine by decide), fun tp ntp => ?_⟩)
        refine ⟨_, tp, _, _, _, false, rfl, upd_same, pr, .base (.int i), tA (b1 := false) (b2 := false) (by decide +kernel) (by decide +kernel), _, rfl, iteF ⟨_, rfl, _, rfl, rfl, ?_⟩⟩
        rw [decide_eq_true (rfl : V.int i = V.int i)]
        exact k _ (new_same ntp)
      | tuple ds =>
        cases n with
        | zero => exact absurd hp id
        | succ m =>
          cases h1 with
          | @tup p xs _ q1 a1 =>
            cases h2 with
            | @tup q ys _ q2 a2 =>
              have l1 := dpa_len a1
              have l2 := dpa_len a2
              have hlen : ds.length ≤ 1000 := hp.1
              refine ⟨_, rfl, _, _, _, _, _, rfl, .ty "tuple", ty_tup q2, kit_ty (r := true) (by decide +kernel), _, rfl, iteT ?_⟩
              refine ⟨_, rfl, _, _, _, _, _, rfl, .ty "list", ty_tup q1, kit_ty (r := false) (by decide +kernel), _, rfl, _, _, _, _, _, rfl, .ty "list", ty_tup q2, kit_ty (r := false) (by decide +kernel), rfl, _, rfl, ?_⟩
              refine ite2 (fun z => absurd z (by decide)) (fun _ => ⟨_, rfl, (show 2 ≤ sizeLine by decide), fun tp ntp => ?_⟩)
              have s1 := new_same (o := .tup [.ty "list", .ty "tuple"]) ntp
              refine ⟨_, tp, _, _, _, true, rfl, upd_same, pr, ty_tup ((same_tf s1).sq q1), tA (b1 := false) (b2 := true) (by decide +kernel) (by decide +kernel), _, rfl, iteF ?_⟩
              obtain ⟨H1, hH1⟩ : ∃ H1, H1 = upd H tp (.tup [.ty "list", .ty "tuple"]) := ⟨_, rfl⟩
              rw [← hH1] at s1 ⊢
              have q1' := (same_tf s1).sq q1
              have q2' := (same_tf s1).sq q2
              refine ⟨_, rfl, p, _, rfl, .inr q1', _, rfl, q, _, rfl, .inr q2', rfl, _, rfl, ?_⟩
              rw [l1, l2, decide_eq_true (rfl : V.int (ds.length : Int) = V.int (ds.length : Int))]
              refine iteT ?_
              refine ⟨_, rfl, _, rfl, p, q, xs, ys, rfl, .inr ⟨q1', q2', fun D hD => ?_⟩⟩
              refine lc_it (walk_zipT (K := K) (a := p) (b := q) (xs := xs) (ys := ys) rfl) (fun i H' => Acc H1 D (fl ds (fun _ => true) (fun _ => V.bl true) i) H') (acc_0 hD) (fun i H' _ h => ⟨(same_tf h.1).sq q1', (same_tf h.1).sq q2'⟩) (fun i v H' Hx hi h yy => ?_) (fun H' h => ?_)
              · obtain ⟨T1, x1, y1, rfl, nT, rfl, hx, hy⟩ := yy
                have hi2 : i < ds.length := by omega
                have he : ds[i]? = some ds[i] := List.getElem?_eq_getElem hi2
                obtain ⟨w1, e1, d1⟩ := dpa_get a1 he
                obtain ⟨w2, e2, d2⟩ := dpa_get a2 he
                replace hx : xs[i]? = some x1 := hx
                replace hy : ys[i]? = some y1 := hy
                rw [e1] at hx
                rw [e2] at hy
                obtain rfl : w1 = x1 := Option.some.inj hx
                obtain rfl : w2 = y1 := Option.some.inj hy
                have sT := new_same (o := .tup [w1, w2]) nT
                have S2 := (s1.trans h.1).trans sT
                refine ⟨T1, _, rfl, SqT.of upd_same, rfl, _, _, rfl, _, _, rfl, rfl, ?_⟩
                refine ⟨rfl, ?_⟩
                dsimp only [tYes]
                rw [if_pos rfl]
                · refine ⟨_, rfl, _, rfl, w1, w2, ds[i], rfl, dp_nl (same_tf S2) _ _ (alok_nl _ _ (hp.2 _ (List.getElem_mem hi2))) d1, dp_nl (same_tf S2) _ _ (alok_nl _ _ (hp.2 _ (List.getElem_mem hi2))) d2, hp.2 _ (List.getElem_mem hi2), fun H3 s3 => ?_⟩
                  exact acc_yes (f := fun _ => V.bl true) hD h (sT.trans s3) he rfl hlen
              · have e : min xs.length ys.length = ds.length := by omega
                rw [e, fl_every] at h
                refine ⟨D, ds.map fun _ => true, rfl, SqL.of (by rw [h.2, List.map_map]; rfl), ?_⟩
                rw [List.all_map]
                have e : (ds.all (id ∘ fun _ => true)) = true := by simp
                rw [e]
                exact k H' (s1.trans h.1)
      | bool c => cases n <;> exact hp.elim
      | str c => cases n <;> exact hp.elim
      | _ => first | (cases n <;> exact hp.elim) | cases h1
end
end K22
set_option maxRecDepth 100000
set_option maxHeartbeats 4000000
/-! The world of the law. -/
namespace K22
open PySem PySem.Spec PyProof.Rows L2 KF KD KP
/-- w, with its data -/
def WlD (K : PySem.W.Frag) (H : Hp) (wa : Addr) (sl : List (Option Tg)) (wd : List PyData) : Prop := ∃ wv : List V, H wa = some (.lst wv) ∧ wv.length = 49 ∧ (∀ (i : Nat) (o : Option Tg), sl[i]? = some o → ∃ v : V, wv[i]? = some v ∧ SlAt K H v o) ∧ DpAll K H wv wd ∧ ∀ e ∈ wd, AlOk 2 e
theorem al_nls {n : Nat} {ds : List PyData} (h : ∀ e ∈ ds, AlOk n e) : NLs ds := nls_of fun e he => alok_nl _ _ (h e he)
theorem WlD.wl {K : PySem.W.Frag} {H : Hp} {wa : Addr} {sl : List (Option Tg)} {wd : List PyData} (h : WlD K H wa sl wd) : WlAt K H wa sl := by
  obtain ⟨wv, h1, h2, h3, _⟩ := h
  exact ⟨wv, h1, h2, h3⟩
theorem WlD.tf {K : PySem.W.Frag} {H H' : Hp} {wa : Addr} {sl : List (Option Tg)} {wd : List PyData} (h : WlD K H wa sl wd) (e : TF H H') (f : H' wa = H wa) : WlD K H' wa sl wd := by
  obtain ⟨wv, h1, h2, h3, h4, h5⟩ := h
  exact ⟨wv, by rw [f]; exact h1, h2, fun i o z => by obtain ⟨v, g1, g2⟩ := h3 i o z; exact ⟨v, g1, g2.tf e⟩, dpa_nl e _ _ (al_nls h5) h4, h5⟩
theorem WlD.same {K : PySem.W.Frag} {H H' : Hp} {wa : Addr} {sl : List (Option Tg)} {wd : List PyData} (h : WlD K H wa sl wd) (e : Same H H') : WlD K H' wa sl wd := by
  obtain ⟨wv, h1, _⟩ := id h
  exact h.tf (same_tf e) (by rw [h1]; exact e _ _ h1)
def rTupS (K : PySem.W.Frag) : List V → Hp → VK → Prop := fun xs H Q => ∃ p ys, xs = [V.ref p] ∧ ((SqL K H p ys ∧ ∀ l : Addr, H l = none → Q (V.ref l) (upd H l (.tup ys))) ∨ SqT K H p ys ∧ Q (V.ref p) H)
def bkD (l : List Nat) : PyData := .tuple (l.map fun n : Nat => PyData.int (n : Int))
theorem dpa_ints {K : PySem.W.Frag} {H : Hp} : ∀ l : List Nat, DpAll K H (nV l) (l.map fun n : Nat => PyData.int (n : Int))
  | [] => .nil
  | _ :: l => .cons (.int _) (dpa_ints l)
theorem bkD_al (l : List Nat) (h : l.length ≤ 16) : AlOk 2 (bkD l) := ⟨by rw [List.length_map]; omega, fun e he => by
  obtain ⟨n, _, rfl⟩ := List.mem_map.mp he
  trivial⟩
theorem dpa_refs {K : PySem.W.Frag} {H : Hp} : ∀ (ts : List Addr) (f : Nat → List Nat), (∀ (k : Nat) (q : Addr), ts[k]? = some q → SqT K H q (nV (f k))) → DpAll K H (ts.map V.ref) ((List.range ts.length).map fun k => bkD (f k))
  | [], _, _ => .nil
  | q :: ts, f, h => by
    rw [List.length_cons, List.range_succ_eq_map, List.map_cons, List.map_cons, List.map_map]
    exact .cons (.tup (h 0 q rfl) (dpa_ints _)) (dpa_refs ts (fun k => f (k + 1)) fun k r hr => h (k + 1) r (by rw [List.getElem?_cons_succ]; exact hr))
theorem cutV_all {xs : List V} {n : Nat} (h : xs.length = n) : cutV xs none (some (n : Int)) = xs := by
  unfold cutV
  rw [HT.sIx_nat, HT.sIx_none, List.drop_zero, Nat.sub_zero, List.take_of_length_le (by omega)]
section
variable {P : Program} {w : World} {K : PySem.W.Frag} {mg : Str → Option Value} {base : Heap}
def spWld (K : PySem.W.Frag) : Sp := fun vs H Q _ => ∃ (g : V) (wa : Addr) (G : Gm) (sl : List (Option Tg)) (wd : List PyData), vs = [g, .ref wa] ∧ GmAt K H g G ∧ G.ok ∧ SlAll G sl ∧ WlD K H wa sl wd ∧
  ∀ t wv wd' H', Same H H' → WtAt K H' t wv G sl → DpAll K H' wv wd' → (∀ e ∈ wd', AlOk 2 e) → Q (.ref t) H'
theorem scLwd : FnScope ["game", "w", "wide", "high", "buckets", "slot", "cell", "k", "bucket"] ["game", "w"] (defScope s_law_world) := ⟨rfl, rfl, rfl, by decide +kernel, rfl, by decide +kernel, by decide +kernel⟩
theorem ok_law_world (T : Txt K w mg) : FnOk P w K mg base CX0 3 (He.fAd K ("_law_world", none)) (fdAt K (He.fAd K ("_law_world", none))) ["game", "w"] (spWld K) := by
  refine T.F_law_world.ok scLwd (fun vs H Q E h => ?_) (fun cdv A outer s H vs Q E hr h => ?_)
  · obtain ⟨g, wa, G, sl, wd, rfl, _⟩ := h
    rfl
  · obtain ⟨g, wa, G, sl, wd, rfl, hg, o, sa, hw, k⟩ := h
    refine ⟨_, PSs.nox (pss_cons (ps_asg (pe_call (ok_law_size T) (hr.mono (by first | decide | omega)) (by rfl) T.g_law_size (T.F_law_size).kp T.b_law_size .nil pass0 (pa_cons (pv 0) pa_nil)) (pg_tup (by rfl) (pgs_cons (pg_name (i := 2) scLwd.nd rfl (Or.inl rfl)) (pgs_cons (pg_name (i := 3) scLwd.nd rfl (Or.inl rfl)) pgs_nil))))
      (pss_cons (ps_setLc (i := 4) (own := [("k", 7)]) (g := gName 7) (tt := tYes) (by rfl) scLwd.nd rfl rfl (sw_true rfl rfl rfl (by decide +kernel)) (pi_range1 (by rfl) T.n_range (pa_cons (pe_op op_mulW (pe_op op_fdivW (pe_op op_add (pv 3) pe_int) pe_int) (pe_op op_fdivW (pe_op op_add (pv 2) pe_int) pe_int)) pa_nil)) (blkOk_by (own := [("k", 7)]) (N := ["game", "w", "wide", "high", "buckets", "slot", "cell", "k", "bucket"]) (sc := defScope s_law_world) (by decide +kernel)) (fun _ _ _ _ _ => pg_name (i := 7) scLwd.nd rfl (Or.inl rfl)) (fun _ _ _ _ _ => pts_nil) (fun _ _ _ _ _ => (pe_lst pa_nil)))
      (pss_cons (ps_for PassesOwn.never rfl (pi_range1 (by rfl) T.n_range (pa_cons pe_int pa_nil)) (pg_name (i := 5) scLwd.nd rfl (Or.inl rfl)) (pss_one (ps_if (pt_cmpR op_notN (pe_ix (r := rIxL K) ix_list (pv 1) (pv 5) (fun _ _ => rfl)) pe_non (nomark _)) (pss_one (ps_for PassesOwn.never rfl (pi_list (pe_call (ok_law_blocks T) (hr.mono (by first | decide | omega)) (by rfl) T.g_law_blocks (T.F_law_blocks).kp T.b_law_blocks .nil pass0 (pa_cons (pv 0) (pa_cons (pe_call (ok_law_box T) (hr.mono (by first | decide | omega)) (by rfl) T.g_law_box (T.F_law_box).kp T.b_law_box .nil pass0 (pa_cons (pv 0) (pa_cons (pe_ix (r := rIxL K) ix_list (pv 1) (pv 5) (fun _ _ => rfl)) pa_nil))) pa_nil)))) (pg_name (i := 6) scLwd.nd rfl (Or.inl rfl)) (pss_one (ps_expr (pe_bm PySem.F.plainAttrs_list PySem.F.slot_list_append PySem.F.type_list_append mt_append (pe_ix (r := rIxL K) ix_list (pv 4) (pe_op op_sub (pv 6) pe_int) (fun _ _ => rfl)) (pa_cons (pv 5) pa_nil)))))) pss_nil)))
      (pss_one (ps_ret (pe_callTy (show CallR _ _ (rTupS K) from call_tuple_of) (by rfl) T.n_tuple PyProof.Rows.Boot.«tuple» (pa_cons (pe_op op_cat (pe_slice sl_list (pv 1) po_none (po_some pe_int)) (pe_lc (own := [("bucket", 8)]) (g := gName 8) (tt := tYes) (by rfl) scLwd.nd (pi_list (pv 4)) (blkOk_by (own := [("bucket", 8)]) (N := ["game", "w", "wide", "high", "buckets", "slot", "cell", "k", "bucket"]) (sc := defScope s_law_world) (by decide +kernel)) (fun _ _ _ _ _ => pg_name (i := 8) scLwd.nd rfl (Or.inl rfl)) (fun _ _ _ _ _ => pts_nil) (fun _ _ _ _ _ => (pe_callTy (show CallR _ _ (rTupS K) from call_tuple_of) (by rfl) T.n_tuple PyProof.Rows.Boot.«tuple» (pa_cons (pv 8) pa_nil))))) pa_nil))))))), ?_⟩
    have hu := hr.units
    have d32 : ∀ i : Int, CDivW i 32 := fun i => wide_div (b := 10) (by decide) (by decide) (by decide) (by decide)
    have b40 := bhw o
    have hW : G.wi = 8 * (G.W : Int) := rfl
    have hHi : G.hi = 8 * (G.rows.length : Int) := rfl
    have ew : (G.wi + 31) / 32 = G.bw := by
      have h3 : G.bw = ((G.W : Int) + 3) / 4 := rfl
      omega
    have eh : (G.hi + 31) / 32 = G.bh := by
      have h3 : G.bh = ((G.rows.length : Int) + 3) / 4 := rfl
      omega
    have bw8 : 0 ≤ G.bw ∧ G.bw ≤ 8 := by have := o.w2; have h3 : G.bw = ((G.W : Int) + 3) / 4 := rfl; omega
    have bh8 : 0 ≤ G.bh ∧ G.bh ≤ 5 := by have := o.r2; have h3 : G.bh = ((G.rows.length : Int) + 3) / 4 := rfl; omega
    have p40 : (2 : Nat) ^ 40 = 1099511627776 := by decide
    have cm : CMulW ((G.hi + 31) / 32) ((G.wi + 31) / 32) := by
      rw [ew, eh]
      exact wide_mul (a := 40) (b := 40) (small_ab bh8.1 (by omega)) (small_ab bw8.1 (by omega)) (by decide) (by decide) (by decide)
    obtain ⟨N, hN⟩ : ∃ N : Nat, N = (((G.hi + 31) / 32) * ((G.wi + 31) / 32)).toNat := ⟨_, rfl⟩
    have hNi : (N : Int) = G.bh * G.bw := by rw [hN, ew, eh]; omega
    refine ⟨_, rfl, g, G, rfl, hg, o, fun p H1 s1 hp => ⟨p, _, rfl, SqT.of hp, rfl, _, _, rfl, _, _, rfl, rfl, ?_⟩⟩
    refine ⟨_, rfl, _, _, rfl, rfl, _, _, rfl, rfl, d32 _, _, rfl, _, _, rfl, rfl, _, _, rfl, rfl, d32 _, _, _, rfl, rfl, cm, _, rfl, by rw [ew, eh]; omega, by rw [ew, eh]; omega, fun D hD => ?_⟩
    rw [← hN]
    refine lc_it (walk_r0 (n := N)) (fun i H' => ∃ as, as.length = i ∧ BkAt H1 H' D as (fun _ => [])) ⟨[], rfl, bk_nil hD⟩ (fun _ _ _ _ => trivial) (fun i v H' Hx hi h yy => ?_) (fun H' h => ?_)
    · obtain ⟨rfl, rfl⟩ := yy
      obtain ⟨as, al, bk⟩ := h
      refine ⟨rfl, ?_⟩
      dsimp only [tYes]
      rw [if_pos rfl]
      refine ⟨(show 0 ≤ sizeLine by decide), fun q nq => ?_⟩
      have bk' := bk.same (new_same (o := .lst []) nq)
      refine ⟨_, bk'.li, ?_, as ++ [q], by rw [List.length_append, al]; rfl, bk_new bk nq⟩
      rw [List.length_map, al]
      exact Nat.lt_of_lt_of_le (show i < 100 by omega) (by decide)
    · obtain ⟨as, al, bk⟩ := h
      have S0 := s1.trans bk.sm
      refine ⟨16, rfl, by decide, by decide, ?_⟩
      refine L2.for_it (walk_r0 (n := 16)) (fun i σ H' => ∃ v5 v6 : Option V, σ = [some g, some (.ref wa), some (.int G.wi), some (.int G.hi), some (.ref D), v5, v6, none, none] ∧ BkAt H1 H' D as (bkI G sl i)) ⟨_, _, rfl, bk.imp fun k _ => rfl⟩ (fun _ _ _ _ _ => trivial) (fun i x σ H4 Hx hi hPv hy => ?_) (fun σ H4 hPv => ?_)
      · obtain ⟨v5, v6, rfl, bk4⟩ := hPv
        obtain ⟨rfl, rfl⟩ := hy
        have hw4 := hw.same (s1.trans bk4.sm)
        obtain ⟨wv, hwv, wl, hws, _⟩ := id hw4
        obtain ⟨so, hso⟩ : ∃ so, sl[i]? = some so := ⟨_, List.getElem?_eq_getElem (by rw [sa.len]; omega)⟩
        obtain ⟨v, hv1, hv2⟩ := hws i so hso
        refine ⟨_, rfl, _, rfl, wa, _, _, _, rfl, rfl, SqL.of hwv, atI_nat hv1, rfl, ?_⟩
        cases so with
        | none =>
          obtain rfl : v = .non := hv2
          exact ⟨_, rfl, iteF ⟨_, _, rfl, bk4.imp fun k _ => bkI_none hso⟩⟩
        | some t =>
          have hv2 : TgAt K Hx v t := hv2
          obtain ⟨kd, hkd, _⟩ := (sa.ok t (List.mem_of_getElem? hso)).kd
          obtain ⟨limt, _, _⟩ := (sa.ok t (List.mem_of_getElem? hso)).lim o
          have ebx : G.bx t = t.box kd := by unfold Gm.bx; rw [hkd]
          rw [ebx] at limt
          obtain ⟨ta, ow, rfl, hta⟩ := id hv2
          refine ⟨_, rfl, iteT ?_⟩
          have tf4 : TF H Hx := same_tf (s1.trans bk4.sm)
          refine ⟨_, rfl, _, rfl, _, rfl, _, rfl, wa, _, _, _, rfl, rfl, SqL.of hwv, atI_nat hv1, g, _, G, t, kd, rfl, hg.tf tf4, hv2, hkd, fun pb H5 s5 hpb => ?_⟩
          have hb5 : BxAt K H5 (.ref pb) (t.box kd) := ⟨pb, rfl, SqT.of hpb⟩
          have tf5 := tf4.trans (same_tf s5)
          refine ⟨g, .ref pb, G, t.box kd, rfl, hg.tf tf5, o, hb5, limt, fun p2 H6 s6 hp2 np2 => ⟨p2, rfl, ⟨_, SqL.of hp2⟩, ?_⟩⟩
          have S6 := s5.trans s6
          have bk6 := bk4.same S6
          have npx : Hx p2 = none := by
            cases e : Hx p2 with
            | none => rfl
            | some z => exact absurd ((s5 _ _ e).symm.trans np2) (by simp)
          have pas : ∀ a ∈ as, p2 ≠ a := fun a ha e => by
            obtain ⟨k, hk⟩ := List.mem_iff_getElem?.mp ha
            rw [← e] at hk
            rw [bk4.at' k p2 hk] at npx
            cases npx
          obtain ⟨cs, hcs⟩ : ∃ cs, cs = G.blk (t.box kd) := ⟨_, rfl⟩
          have csl : cs.length ≤ 40 := by rw [hcs]; exact blk_len o limt
          have csn : cs.Nodup := by rw [hcs]; exact blk_nd o limt
          have csm : ∀ c ∈ cs, 49 ≤ c ∧ c < 49 + G.bh * G.bw := fun c hc => blk_mem o limt (by rw [← hcs]; exact hc)
          rw [← hcs] at hp2
          refine L2.for_it (walk_list (K := K) (a := p2) (xs := cs.map V.int)) (fun j σ H' => ∃ v6 : Option V, σ = [some g, some (.ref wa), some (.int G.wi), some (.int G.hi), some (.ref D), some (.int (i : Int)), v6, none, none] ∧ BkAt H1 H' D as (bkJ G sl i (cs.take j)) ∧ H' p2 = some (.lst (cs.map V.int))) ⟨_, rfl, bk6.imp fun k _ => by rw [List.take_zero]; exact bkJ_nil, hp2⟩ (fun j σ H' _ h => by obtain ⟨_, _, _, h⟩ := h; exact SqL.of h) (fun j x σ H7 Hy hj hPv hy => ?_) (fun σ H7 hPv => ?_)
          · obtain ⟨v6, rfl, bk7, hp7⟩ := hPv
            obtain ⟨rfl, hx⟩ := hy
            rw [List.length_map] at hj
            have hcj := List.getElem?_eq_getElem hj
            obtain ⟨c, hc⟩ : ∃ c, c = cs[j] := ⟨_, rfl⟩
            rw [← hc] at hcj
            rw [List.getElem?_map, hcj] at hx
            cases hx
            obtain ⟨c1, c2⟩ := csm c (List.mem_of_getElem? hcj)
            obtain ⟨n, hn⟩ := Int.eq_ofNat_of_zero_le (show 0 ≤ c - 49 by omega)
            obtain rfl : c = 49 + (n : Int) := by omega
            have hnl : n < as.length := by rw [al]; omega
            obtain ⟨ad, had⟩ : ∃ ad, as[n]? = some ad := ⟨_, List.getElem?_eq_getElem hnl⟩
            have hmem := List.mem_of_getElem? had
            have hat : (as.map V.ref)[n]? = some (.ref ad) := by rw [List.getElem?_map, had]; rfl
            have hA := bk7.at' n ad had
            refine ⟨_, rfl, _, rfl, _, _, rfl, rfl, D, _, _, .ref ad, rfl, rfl, SqL.of bk7.li, (by
              have e : (49 + (n : Int)) - 49 = (n : Int) := by omega
              rw [e]
              exact atI_nat hat), .inl ⟨rfl, _, SqL.of hA⟩, _, rfl, ad, _, _, rfl, rfl, hA, ?_, ?_⟩
            · unfold nV
              rw [List.length_map]
              exact Nat.lt_of_le_of_lt (Nat.le_trans bkJ_len (show i + 1 ≤ 16 by omega)) (by decide)
            · have bk8 := (bk_put (xs := bkJ G sl i (cs.take j) n ++ [i]) bk7 had).imp fun k _ => bkJ_step (k := k) csn hcj
              refine ⟨_, rfl, ?_, ?_⟩
              · unfold nV at bk8 ⊢
                rw [List.map_append] at bk8
                exact bk8
              · rw [upd_ne (pas ad hmem)]
                exact hp7
          · obtain ⟨v6, rfl, bk7, hp7⟩ := hPv
            rw [List.length_map, List.take_length] at bk7
            exact ⟨_, _, rfl, bk7.imp fun k _ => by rw [hcs]; exact bkJ_all hso hkd⟩
      · obtain ⟨v5, v6, rfl, bk4⟩ := hPv
        have S4 := s1.trans bk4.sm
        obtain ⟨wv, hwv, wl, hws, wdd, wnl⟩ := hw.same S4
        have ecut : cutV wv none (some 49) = wv := cutV_all (n := 49) wl
        have bk5 : ∀ p2, H4 p2 = none → BkAt H1 (upd H4 p2 (.lst wv)) D as (bkI G sl 16) := fun p2 np2 => bk4.same (new_same np2)
        refine ⟨_, rfl, _, rfl, wa, wv, rfl, SqL.of hwv, fun p2 np2 => ?_⟩
        rw [ecut]
        refine ⟨_, rfl, D, rfl, ⟨_, SqL.of (bk5 p2 np2).li⟩, fun D2 hD2 => ?_⟩
        have s5 := new_same (o := .lst wv) np2
        have bk5 := bk5 p2 np2
        obtain ⟨H5, hH5⟩ : ∃ H5, H5 = upd H4 p2 (.lst wv) := ⟨_, rfl⟩
        rw [← hH5] at s5 bk5 hD2 ⊢
        refine lc_it (walk_list (K := K) (a := D) (xs := as.map V.ref)) (fun i H' => ∃ ts : List Addr, ts.length = i ∧ H' D2 = some (.lst (ts.map V.ref)) ∧ Same H5 H' ∧ ∀ (k : Nat) (q : Addr), ts[k]? = some q → SqT K H' q (nV (bkI G sl 16 k))) ⟨[], rfl, upd_same, new_same hD2, fun _ _ h => by cases h⟩ (fun i H' _ h => by obtain ⟨_, _, _, s, _⟩ := h; exact SqL.of (s _ _ bk5.li)) (fun i v H' Hx hi h yy => ?_) (fun H' h => ?_)
        · obtain ⟨rfl, hv⟩ := yy
          obtain ⟨ts, tl, hts, sm, hq⟩ := h
          rw [List.length_map] at hi
          have hai := List.getElem?_eq_getElem hi
          obtain ⟨ad, had⟩ : ∃ ad, ad = as[i] := ⟨_, rfl⟩
          rw [← had] at hai
          rw [List.getElem?_map, hai] at hv
          cases hv
          refine ⟨rfl, ?_⟩
          dsimp only [tYes]
          rw [if_pos rfl]
          refine ⟨_, rfl, ad, _, rfl, .inl ⟨SqL.of (sm _ _ (bk5.at' i ad hai)), fun q nq => ?_⟩⟩
          have s6 := new_same (o := .tup (nV (bkI G sl 16 i))) nq
          have h6 := s6 _ _ hts
          have nD5 : H5 D2 = none := hD2
          refine ⟨_, h6, ?_, ts ++ [q], by rw [List.length_append, tl]; rfl, by rw [upd_same, List.map_append]; rfl, fun c o z => ?_, fun k r hr => ?_⟩
          · rw [List.length_map, tl]
            exact Nat.lt_of_lt_of_le (show i < 100 by omega) (by decide)
          · rw [upd_ne (ne_of_none z nD5)]
            exact s6 _ _ (sm _ _ z)
          · have tf := TF.lst1 (o := .lst (ts.map V.ref ++ [.ref q])) h6
            by_cases hk : k < ts.length
            · rw [List.getElem?_append_left hk] at hr
              exact ((same_tf s6).trans tf).sq (hq k r hr)
            · rw [List.getElem?_append_right (by omega)] at hr
              cases hd : k - ts.length with
              | zero =>
                rw [hd] at hr
                obtain rfl : q = r := by simpa using hr
                obtain rfl : k = i := by omega
                exact tf.sq (SqT.of upd_same)
              | succ n =>
                rw [hd] at hr
                cases hr
        · obtain ⟨ts, tl, hts, sm, hq⟩ := h
          rw [List.length_map] at tl
          have e5 : H5 p2 = some (.lst wv) := by rw [hH5, upd_same]
          have tl40 : ts.length ≤ 40 := by omega
          refine ⟨p2, D2, wv, ts.map V.ref, rfl, rfl, sm _ _ e5, hts, Nat.le_trans (show wv.length + (ts.map V.ref).length ≤ 100 by rw [List.length_map]; omega) (by decide), fun p3 np3 => ⟨p3, _, rfl, .inl ⟨SqL.of upd_same, fun t nt => ?_⟩⟩⟩
          have S7 := ((sm.trans (new_same (o := .lst (wv ++ ts.map V.ref)) np3)).trans (new_same (o := .tup (wv ++ ts.map V.ref)) nt))
          have S8 := (S4.trans s5).trans S7
          have hq7 : ∀ (k : Nat) (q : Addr), ts[k]? = some q → SqT K (upd (upd H' p3 (.lst (wv ++ ts.map V.ref))) t (.tup (wv ++ ts.map V.ref))) q (nV (bkI G sl 16 k)) := fun k q h => (same_tf ((new_same np3).trans (new_same nt))).sq (hq k q h)
          refine k t (wv ++ ts.map V.ref) (wd ++ (List.range ts.length).map fun k => bkD (bkI G sl 16 k)) _ S8 ⟨SqT.of upd_same, ?_, fun i o z => ?_, fun c h1 h2 => ?_⟩ (dpa_ap (dpa_nl (same_tf (s5.trans S7)) _ _ (al_nls wnl) wdd) (dpa_refs ts _ hq7)) (fun e he => (List.mem_append.mp he).elim (wnl e) fun he => ?_)
          · rw [List.length_append, List.length_map]
            omega
          · obtain ⟨v, hv1, hv2⟩ := hws i o z
            have hi := (List.getElem?_eq_some_iff.mp z).1
            rw [sa.len] at hi
            exact ⟨v, by rw [List.getElem?_append_left (by omega)]; exact hv1, hv2.tf (same_tf (s5.trans S7))⟩
          · rw [List.length_append, List.length_map] at h2
            obtain ⟨q, hq'⟩ : ∃ q, ts[c - 49]? = some q := ⟨_, List.getElem?_eq_getElem (by omega)⟩
            refine ⟨q, ?_, ?_⟩
            · rw [List.getElem?_append_right (by omega), wl, List.getElem?_map, hq']
              rfl
            · have h := hq7 (c - 49) q hq'
              rw [bkI, show (49 : Int) + ((c - 49 : Nat) : Int) = (c : Int) by omega] at h
              exact h
          · obtain ⟨k, _, rfl⟩ := List.mem_map.mp he
            exact bkD_al _ bkI_len
end
end K22
set_option maxRecDepth 100000
set_option maxHeartbeats 4000000
/-! What the law says was seen. -/
namespace K22
open PySem PySem.Spec PyProof.Rows L2 KF KD KP
section
variable {P : Program} {w : World} {K : PySem.W.Frag} {mg : Str → Option Value} {base : Heap}
def spLse (K : PySem.W.Frag) : Sp := fun vs H Q _ => ∃ (wt sd : Addr) (wv : List V) (wd : List PyData) (p : Int → Prop), vs = [.ref wt, .ref sd] ∧ KSet H sd p ∧ SqT K H wt wv ∧ DpAll K H wv wd ∧ NLs wd ∧ (∀ c, p c → 0 ≤ c ∧ c < (wv.length : Int)) ∧
  ∀ t ys H', Same H H' → ys.Pairwise (· < ·) → (∀ c, c ∈ ys ↔ p c) → Dp K H' (.ref t) (seenD wd ys) → Q (.ref t) H'
theorem scLse : FnScope ["world", "seen", "cell"] ["world", "seen"] (defScope s_law_seen) := ⟨rfl, rfl, rfl, by decide +kernel, rfl, by decide +kernel, by decide +kernel⟩
theorem ok_law_seen (T : Txt K w mg) : FnOk P w K mg base CX0 1 (He.fAd K ("_law_seen", none)) (fdAt K (He.fAd K ("_law_seen", none))) ["world", "seen"] (spLse K) := by
  refine T.F_law_seen.ok scLse (fun vs H Q E h => ?_) (fun cdv A outer s H vs Q E hr h => ?_)
  · obtain ⟨wt, sd, wv, wd, p, rfl, _⟩ := h
    rfl
  · obtain ⟨wt, sd, wv, wd, p, rfl, ks, sq, dw, nl, hp, k⟩ := h
    refine ⟨_, PSs.nox (pss_one (ps_ret (pe_callTy call_tuple_of (by rfl) T.n_tuple PyProof.Rows.Boot.«tuple» (pa_cons (pe_lc (own := [("cell", 2)]) (g := gName 2) (tt := tYes) (by rfl) scLse.nd (pi_list (pe_callB (call_sortedDI (by rfl)) (by rfl) T.n_sorted PyProof.Rows.Boot.«sorted» (pa_cons (pv 1) pa_nil))) (blkOk_by (own := [("cell", 2)]) (N := ["world", "seen", "cell"]) (sc := defScope s_law_seen) (by decide +kernel)) (fun _ _ _ _ _ => pg_name (i := 2) scLse.nd rfl (Or.inl rfl)) (fun _ _ _ _ _ => pts_nil) (fun _ _ _ _ _ => (pe_tup (pa_cons (pv 2) (pa_cons (pe_ix (r := rIxT K) ix_tup (pv 0) (pv 2) (fun _ _ => rfl)) pa_nil))))) pa_nil)))), ?_⟩
    obtain ⟨kvs, kl, hk, hkk, hnd, hmem, hcel⟩ := id ks
    have k56 := cel_len hnd hcel
    refine ⟨_, rfl, sd, kvs, kl, rfl, .inl hk, hkk, by omega, fun ys q hperm hsort nq => ?_⟩
    have s1 := new_same (o := .lst (ys.map V.int)) nq
    have hq : (upd H q (.lst (ys.map V.int))) q = some (.lst (ys.map V.int)) := upd_same
    have yn : ys.Nodup := hperm.nodup_iff.mpr hnd
    have yl : ys.length ≤ 1000 := by rw [hperm.length_eq]; omega
    have ym : ∀ c, c ∈ ys ↔ p c := fun c => (hperm.mem_iff).trans (hmem c)
    refine ⟨q, rfl, ⟨_, SqL.of hq⟩, fun D hD => ?_⟩
    refine lc_it (walk_list (K := K) (a := q) (xs := ys.map V.int)) (fun i H' => ∃ acc, H' D = some (.lst acc) ∧ SeenV K H' wd (ys.take i) acc ∧ Same (upd H q (.lst (ys.map V.int))) H') ⟨[], upd_same, by rw [List.take_zero]; exact .nil, new_same hD⟩ (fun i H' _ h => by obtain ⟨_, _, _, h⟩ := h; exact SqL.of (h _ _ hq)) (fun i v H' Hx hi h yy => ?_) (fun H' h => ?_)
    · obtain ⟨rfl, hv⟩ := yy
      obtain ⟨acc, hacc, hs, sm⟩ := h
      rw [List.length_map] at hi
      have hx := List.getElem?_eq_getElem hi
      obtain ⟨c, hc⟩ : ∃ c, c = ys[i] := ⟨_, rfl⟩
      rw [← hc] at hx
      rw [List.getElem?_map, hx] at hv
      cases hv
      refine ⟨rfl, ?_⟩
      dsimp only [tYes]
      rw [if_pos rfl]
      have S := s1.trans sm
      obtain ⟨c0, c1⟩ := hp c ((ym c).mp (List.mem_of_getElem? hx))
      obtain ⟨n, rfl⟩ := Int.eq_ofNat_of_zero_le c0
      have hn : n < wv.length := by omega
      obtain ⟨v, hv1, hv2⟩ := dpa_gd dw hn
      refine ⟨_, rfl, _, rfl, _, rfl, wt, _, _, v, rfl, rfl, (same_tf S).sq sq, atI_nat hv1, (show 2 ≤ sizeLine by decide), fun q2 nq2 => ?_⟩
      exact seen_step nl hD sm hacc hs hx (by rw [Int.toNat_natCast]; exact dp_nl (same_tf S) _ _ (nl_gd nl _) hv2) (nl_gd nl _) nq2 yl
    · obtain ⟨acc, hacc, hs, sm⟩ := h
      rw [List.length_map, List.take_length] at hs
      refine ⟨D, acc, rfl, .inl ⟨SqL.of hacc, fun t nt => ?_⟩⟩
      have st := new_same (o := .tup acc) nt
      exact k t ys _ ((s1.trans sm).trans st) (lt_of hsort yn) ym (.tup (SqT.of upd_same) (dpa_nl (same_tf st) _ _ (nls_seen wd nl _) hs))
theorem seenD_al {wd : List PyData} (h : ∀ e ∈ wd, AlOk 2 e) {ys : List Int} (hl : ys.length ≤ 1000) : AlOk 4 (seenD wd ys) := by
  refine ⟨by rw [List.length_map]; exact hl, fun e he => ?_⟩
  obtain ⟨c, _, rfl⟩ := List.mem_map.mp he
  refine ⟨(show 2 ≤ 1000 by decide), fun e2 he2 => ?_⟩
  rcases List.mem_cons.mp he2 with rfl | he2
  · trivial
  · obtain rfl : e2 = wd.getD c.toNat .none := by simpa using he2
    by_cases hc : c.toNat < wd.length
    · rw [List.getD, List.getElem?_eq_getElem hc]
      exact h _ (List.getElem_mem hc)
    · rw [List.getD, List.getElem?_eq_none (by omega)]
      trivial
end
end K22
set_option maxRecDepth 100000
set_option maxHeartbeats 4000000
/-! Rows and kinds, drawn. -/
namespace K22
open PySem PySem.Spec PyProof.Rows L2 KF KD KP
theorem foldl_size (x : Array Nat) : ∀ (n : Nat) (a : Array Nat), ((List.replicate n x).foldl (· ++ ·) a).size = a.size + n * x.size
  | 0, a => by simp
  | n + 1, a => by
    rw [List.replicate_succ, List.foldl_cons, foldl_size x n, Array.size_append, Nat.succ_mul]
    omega
def rMulS : R2 := fun x y H Q => ∃ (a : Str) (n : Nat), x = .str a ∧ y = .int (n : Int) ∧ 1 ≤ n ∧ n ≤ 1000 ∧ 1 ≤ a.length ∧ a.length ≤ 1000 ∧ ∀ z : Str, z.length = n * a.length → Q (.str z) H
theorem op_mulS {X : Cx} : OpR X (binaryOp .Mult) rMulS := by
  intro pins s σ H x y v u Q I rx ry h
  obtain ⟨a, n, rfl, rfl, h1, h2, h3, h4, q⟩ := h
  obtain ⟨t, rfl⟩ := rx
  obtain ⟨t', rfl⟩ := ry
  have hm : a.length * n ≤ 1000 * 1000 := Nat.mul_le_mul h4 h2
  have hn : ¬ (n : Int) < 1 := by omega
  refine P.mul_str (by rw [decide_eq_false (by omega), decide_eq_false (by omega)]; rfl) (fun _ _ => ?_) (fun _ _ => ?_) ?_
  · have : (a.length : Int) ≤ (2 ^ 63 - 1) / (n : Int) := (Int.le_ediv_iff_mul_le (by omega)).mpr (by
      have : ((a.length * n : Nat) : Int) ≤ 1000000 := by omega
      rw [Int.natCast_mul] at this
      exact Int.le_trans this (by decide))
    omega
  · rw [Int.toNat_natCast]
    exact decide_eq_false (by
      have : (1000 * 1000 : Nat) < sizeLine := by decide
      omega)
  · rw [if_neg hn]
    split
    · rename_i z
      have hz : n = 1 := by
        rcases (Bool.or_eq_true_iff.mp z) with z | z
        · have := of_decide_eq_true z
          omega
        · have := of_decide_eq_true z
          omega
      subst hz
      exact ⟨.str a, H, I, ⟨t, rfl⟩, q a (by omega)⟩
    · have hl : ((List.replicate (n : Int).toNat a.cps).foldl (· ++ ·) #[]).size = n * a.length := by
        rw [foldl_size, Int.toNat_natCast]
        simp [Str.length]
      have hm2 : n * a.length ≤ 1000 * 1000 := Nat.mul_le_mul h2 h4
      refine ⟨show ((List.replicate (n : Int).toNat a.cps).foldl (· ++ ·) #[]).size ≤ sizeLine by rw [hl]; exact Nat.le_trans hm2 (by decide), ⟨.str _, H, I.tok _, ⟨_, rfl⟩, q _ hl⟩⟩

theorem at_mem {α : Type} {xs : List α} {x : Int} (h0 : 0 ≤ x) (h1 : x < xs.length) : ∃ v ∈ xs, atI xs x = some v := by
  obtain ⟨j, rfl⟩ := Int.eq_ofNat_of_zero_le h0
  have hj : j < xs.length := by omega
  exact ⟨xs[j], List.getElem_mem hj, atI_nat (List.getElem?_eq_getElem hj)⟩
theorem at_strs {l : List Str} {x : Int} (h0 : 0 ≤ x) (h1 : x < l.length) : ∃ m ∈ l, atI (l.map V.str) x = some (.str m) := by
  obtain ⟨v, hv, e⟩ := at_mem (xs := l.map V.str) h0 (by rw [List.length_map]; exact h1)
  obtain ⟨m, hm, rfl⟩ := List.mem_map.mp hv
  exact ⟨m, hm, e⟩
theorem at_sign {z : Str} {x : Int} (h0 : 0 ≤ x) (h1 : x < z.length) : ∃ c, atI z.cps.toList x = some c := by
  obtain ⟨v, _, e⟩ := at_mem (xs := z.cps.toList) h0 (by rw [Array.length_toList]; exact h1)
  exact ⟨v, e⟩
theorem sum_ones : ∀ {l : List Str}, (∀ y ∈ l, y.length = 1) → (l.map (·.length)).sum = l.length
  | [], _ => rfl
  | x :: l, h => by
    rw [List.map_cons, List.sum_cons, h x List.mem_cons_self, sum_ones fun y hy => h y (List.mem_cons_of_mem _ hy), List.length_cons]
    omega
theorem Pot.ne {H : Hp} {d l : Addr} (h : Pot H d) (n : H l = none) : l ≠ d := fun e => by
  obtain ⟨xs, z⟩ := h.lst
  rw [e, z] at n
  cases n
theorem Pot.upd {H : Hp} {d l : Addr} {o : HO} (h : Pot H d) (e : l ≠ d) : Pot (upd H l o) d := h.keep (upd_ne (Ne.symm e))
theorem frm_new {d p : Addr} {H H' : Hp} {o : HO} (f : Frm d H H') (n : H p = none) : Frm d H (upd H' p o) := fun b o' nb z => by
  rw [upd_ne (ne_of_none z n)]
  exact f b o' nb z
def menus : List Str := ["........=.......", "....#=<>^wg.=...", "wwww.w=.w.w.#wgw", "....^...=..>.<.."]
def lows : List Str := ["##########<><>=^", "..=...#.........", "=====#==<=>=.===", "^^^##^^^w^^^####", ".#=<>^wg.#=<>^wg"]
section
variable {P : Program} {w : World} {K : PySem.W.Frag} {mg : Str → Option Value} {base : Heap}
def spRw (K : PySem.W.Frag) : Sp := fun vs H Q _ => ∃ (d : Addr) (h W : Nat), vs = [.ref d, .int (h : Int), .int (W : Int)] ∧ h ≤ 30 ∧ W ≤ 30 ∧ Pot H d ∧ ∀ (f : Addr) (rows : List Str) H', Frm d H H' → Pot H' d → SqT K H' f (rows.map V.str) → rows.length = h → (∀ r ∈ rows, r.length = W) → Q (.ref f) H'
theorem scRw : FnScope ["pot", "high", "wide", "menus", "signs", "under", "rows", "k", "menu", "c"] ["pot", "high", "wide"] (defScope s_law_rows) := ⟨rfl, rfl, rfl, by decide +kernel, rfl, by decide +kernel, by decide +kernel⟩
theorem ok_law_rows (T : Txt K w mg) : FnOk P w K mg base CX0 2 (He.fAd K ("_law_rows", none)) (fdAt K (He.fAd K ("_law_rows", none))) ["pot", "high", "wide"] (spRw K) := by
  refine T.F_law_rows.ok scRw (fun vs H Q E h => ?_) (fun cdv A outer s H vs Q E hr h => ?_)
  · obtain ⟨d, h, W, rfl, _⟩ := h
    rfl
  · obtain ⟨d, h, W, rfl, h30, w30, hd, k⟩ := h
    refine ⟨_, PSs.nox (pss_cons (ps_set (i := 3) scRw.nd rfl (Or.inl rfl) (pe_lst (pa_cons pe_str (pa_cons pe_str (pa_cons pe_str (pa_cons pe_str pa_nil))))))
      (pss_cons (ps_set (i := 4) scRw.nd rfl (Or.inl rfl) (pe_ix (r := rIxL K) ix_list (pv 3) (pe_call (ok_law_take T) (hr.mono (by first | decide | omega)) (by rfl) T.g_law_take (T.F_law_take).kp T.b_law_take .nil pass0 (pa_cons (pv 0) (pa_cons pe_int pa_nil))) (fun _ _ => rfl)))
      (pss_cons (ps_set (i := 3) scRw.nd rfl (Or.inl rfl) (pe_lst (pa_cons pe_str (pa_cons pe_str (pa_cons pe_str (pa_cons pe_str (pa_cons pe_str pa_nil)))))))
      (pss_cons (ps_set (i := 5) scRw.nd rfl (Or.inl rfl) (pe_ix (r := rIxL K) ix_list (pv 3) (pe_call (ok_law_take T) (hr.mono (by first | decide | omega)) (by rfl) T.g_law_take (T.F_law_take).kp T.b_law_take .nil pass0 (pa_cons (pv 0) (pa_cons pe_int pa_nil))) (fun _ _ => rfl)))
      (pss_cons (ps_set (i := 6) scRw.nd rfl (Or.inl rfl) (pe_lst pa_nil))
      (pss_cons (ps_for PassesOwn.never rfl (pi_range1 (by rfl) T.n_range (pa_cons (pv 1) pa_nil)) (pg_name (i := 7) scRw.nd rfl (Or.inl rfl)) (pss_cons (ps_set (i := 8) scRw.nd rfl (Or.inr rfl) (pe_ifExp (pt_cmpR op_eq (pv 7) (pe_op op_sub (pv 1) pe_int) (nomark _)) (pv 5) (pv 4)))
      (pss_one (ps_expr (pe_bm PySem.F.plainAttrs_list PySem.F.slot_list_append PySem.F.type_list_append mt_append (pv 6) (pa_cons (pe_join pe_str (pe_lc (own := [("c", 9)]) (g := gName 9) (tt := tYes) (by rfl) scRw.nd (pi_range1 (by rfl) T.n_range (pa_cons (pv 2) pa_nil)) (blkOk_by (own := [("c", 9)]) (N := ["pot", "high", "wide", "menus", "signs", "under", "rows", "k", "menu", "c"]) (sc := defScope s_law_rows) (by decide +kernel)) (fun _ _ _ _ _ => pg_name (i := 9) scRw.nd rfl (Or.inl rfl)) (fun _ _ _ _ _ => pts_nil) (fun _ _ _ _ _ => (pe_ix ix_str (pv 8) (pe_call (ok_law_take T) (hr.mono (by first | decide | omega)) (by rfl) T.g_law_take (T.F_law_take).kp T.b_law_take .nil pass0 (pa_cons (pv 0) (pa_cons pe_int pa_nil))) (fun _ _ => rfl))))) pa_nil))))))
      (pss_one (ps_ret (pe_callTy call_tuple_of (by rfl) T.n_tuple PyProof.Rows.Boot.«tuple» (pa_cons (pv 6) pa_nil)))))))))), ?_⟩
    refine ⟨(show 4 ≤ sizeLine by decide), fun p np => ?_⟩
    have sp := new_same (o := .lst (menus.map V.str)) np
    refine ⟨_, rfl, _, rfl, d, 4, rfl, by decide, by decide, hd.same sp, fun x1 Ha a0 a1 fa da => ?_⟩
    have hp := fa p _ (hd.ne np) upd_same
    obtain ⟨menu, hm, em⟩ := at_strs (l := menus) a0 a1
    have lm : menu.length = 16 := by
      have : ∀ m ∈ menus, m.length = 16 := by decide +kernel
      exact this _ hm
    refine ⟨p, _, _, _, rfl, rfl, SqL.of hp, em, ?_⟩
    refine ⟨(show 5 ≤ sizeLine by decide), fun p2 np2 => ?_⟩
    have sp2 := new_same (o := .lst (lows.map V.str)) np2
    refine ⟨_, rfl, _, rfl, d, 5, rfl, by decide, by decide, da.same sp2, fun x2 Hb b0 b1 fb db => ?_⟩
    have hp2 := fb p2 _ (da.ne np2) upd_same
    obtain ⟨low, hm2, em2⟩ := at_strs (l := lows) b0 b1
    have ll : low.length = 16 := by
      have : ∀ m ∈ lows, m.length = 16 := by decide +kernel
      exact this _ hm2
    refine ⟨p2, _, _, _, rfl, rfl, SqL.of hp2, em2, ?_⟩
    have fHb : Frm d H Hb := (Frm.of_same sp).trans ((fa.trans (Frm.of_same sp2)).trans fb)
    refine ⟨(show 0 ≤ sizeLine by decide), fun D hD => ?_⟩
    have Dd := db.ne hD
    refine ⟨_, rfl, (h : Int), rfl, by omega, by omega, ?_⟩
    rw [Int.toNat_natCast]
    refine L2.for_it (walk_r0 (n := h)) (fun i σ H' => ∃ (rs : List Str) (v7 v8 : Option V), σ = [some (.ref d), some (.int (h : Int)), some (.int (W : Int)), some (.ref p2), some (.str menu), some (.str low), some (.ref D), v7, v8, none] ∧ Frm d Hb H' ∧ Pot H' d ∧ H' D = some (.lst (rs.map V.str)) ∧ rs.length = i ∧ ∀ r ∈ rs, r.length = W) ⟨[], _, _, rfl, frm_new (Frm.refl _ _) hD, db.upd Dd, upd_same, rfl, fun _ q => (nomatch q)⟩ (fun _ _ _ _ _ => trivial) (fun i x σ H4 Hx hi hPv hy => ?_) (fun σ H4 hPv => ?_)
    · obtain ⟨rs, v7, v8, rfl, f2, d2, hl, hlen, hrs⟩ := hPv
      obtain ⟨rfl, rfl⟩ := hy
      have ST : ∀ mm : Str, [some (V.ref d), some (.int (h : Int)), some (.int (W : Int)), some (.ref p2), some (.str menu), some (.str low), some (.ref D), some (.int (i : Int)), some (.str mm), none] = ([some (V.ref d), some (.int (h : Int)), some (.int (W : Int)), some (.ref p2), some (.str menu), some (.str low), some (.ref D), some (.int (i : Int)), some (.str mm), none] : L2.St) := fun _ => rfl
      refine seq_cut (fun σ' H' => ∃ mm : Str, σ' = [some (.ref d), some (.int (h : Int)), some (.int (W : Int)), some (.ref p2), some (.str menu), some (.str low), some (.ref D), some (.int (i : Int)), some (.str mm), none] ∧ H' = Hx ∧ mm.length = 16) (fun σ' H' hq => ?_) (fun R hR => ?_)
      rotate_left
      · exact ⟨_, rfl, _, rfl, _, _, rfl, rfl, rfl, _, rfl, ite2 (fun _ => ⟨_, rfl, hR _ _ ⟨_, rfl, rfl, ll⟩⟩) (fun _ => ⟨_, rfl, hR _ _ ⟨_, rfl, rfl, lm⟩⟩)⟩
      obtain ⟨mm, rfl, rfl, lmm⟩ := hq
      refine ⟨_, rfl, .inl ⟨rfl, _, SqL.of hl⟩, ⟨_, rfl⟩, _, rfl, (W : Int), rfl, by omega, by omega, fun D2 hD2 => ?_⟩
      rw [Int.toNat_natCast]
      have D2d := d2.ne hD2
      refine lc_it (walk_r0 (n := W)) (fun j Hy => ∃ ys : List Str, Frm d H' Hy ∧ Pot Hy d ∧ Hy D2 = some (.lst (ys.map V.str)) ∧ ys.length = j ∧ ∀ y ∈ ys, y.length = 1) ⟨[], frm_new (Frm.refl _ _) hD2, d2.upd D2d, upd_same, rfl, fun _ q => (nomatch q)⟩ (fun _ _ _ _ => trivial) (fun j v Hy Hz hj h yy => ?_) (fun Hy h => ?_)
      · obtain ⟨rfl, rfl⟩ := yy
        obtain ⟨ys, f3, d3, hl3, hlen3, hys⟩ := h
        refine ⟨rfl, ?_⟩
        dsimp only [tYes]
        rw [if_pos rfl]
        refine ⟨_, rfl, _, rfl, d, 16, rfl, by decide, by decide, d3, fun x Hw c0 c1 f4 d4 => ?_⟩
        obtain ⟨c, hc⟩ := at_sign (z := mm) c0 (by omega)
        have hl4 := f4 _ _ D2d hl3
        refine ⟨_, _, c, rfl, rfl, Nat.le_trans (Nat.le_of_eq lmm) (by decide), hc, _, hl4, Nat.lt_of_le_of_lt (show (ys.map V.str).length ≤ 30 by rw [List.length_map]; omega) (by decide), ys ++ [⟨#[c]⟩], frm_new (f3.trans f4) hD2, d4.upd D2d, ?_, by simp [hlen3], fun y hy => ?_⟩
        · rw [List.map_append]
          exact upd_same
        · rcases List.mem_append.mp hy with hy | hy
          · exact hys y hy
          · rw [List.mem_singleton.mp hy]
            rfl
      · obtain ⟨ys, f3, d3, hl3, hlen3, hys⟩ := h
        have e1 := PySem.W.KT.join_ones ys hys
        have hl2 := f3 _ _ Dd hl
        refine ⟨_, D2, ys, rfl, rfl, .inl (SqL.of hl3), by rw [sum_ones hys, show (Str.ofString "").length = 0 by decide]; omega, D, _, _, rfl, rfl, hl2, Nat.lt_of_le_of_lt (show (rs.map V.str).length ≤ 30 by rw [List.length_map]; omega) (by decide), rs ++ [Txt.join (Str.ofString "") ys], _, _, rfl, frm_new (f2.trans f3) hD, d3.upd Dd, ?_, by simp [hlen], fun r hr => ?_⟩
        · rw [List.map_append]
          exact upd_same
        · rcases List.mem_append.mp hr with hr | hr
          · exact hrs r hr
          · rw [List.mem_singleton.mp hr, e1, hlen3]
    · obtain ⟨rs, v7, v8, rfl, f2, d2, hl, hlen, hrs⟩ := hPv
      refine ⟨_, rfl, D, _, rfl, .inl ⟨SqL.of hl, fun t nt => ?_⟩⟩
      have st := new_same (o := .tup (rs.map V.str)) nt
      exact k t rs _ ((fHb.trans f2).trans (Frm.of_same st)) (d2.same st) (SqT.of upd_same) hlen hrs
end
end K22
set_option maxRecDepth 100000
set_option maxHeartbeats 4000000
/-! Kinds, drawn. -/
namespace K22
open PySem PySem.Spec PyProof.Rows L2 KF KD KP
theorem pot_tf {d : Addr} {H H' : Hp} (f : Frm d H H') (h : Pot H d) : TF H H' := fun c ys z => by
  obtain ⟨xs, hd⟩ := h.lst
  rcases z with z | ⟨u, z⟩
  · exact .inl (f c _ (fun q => by rw [q, hd] at z; cases z) z)
  · exact .inr ⟨u, f c _ (fun q => by rw [q, hd] at z; cases z) z⟩
def trn : List Str := ["bars", "carries", "falls", "frail", "pushed"]
section
variable {P : Program} {w : World} {K : PySem.W.Frag} {mg : Str → Option Value} {base : Heap}
def spKd (K : PySem.W.Frag) : Sp := fun vs H Q _ => ∃ (d : Addr) (j : Nat) (ru : V), vs = [.ref d, .int (j : Int), ru] ∧ j ≤ 7 ∧ Pot H d ∧ ∀ (a : Addr) (kd : Kd) H', Frm d H H' → Pot H' d → KdAt K H' (.ref a) kd → 1 ≤ kd.w ∧ kd.w ≤ 16 ∧ 1 ≤ kd.h ∧ kd.h ≤ 16 ∧ kd.tr.length ≤ 5 → Q (.ref a) H'
theorem scKd : FnScope ["pot", "k", "rules", "sizes", "wide", "high", "mask", "names", "traits", "own", "i"] ["pot", "k", "rules"] (defScope s_law_kind) := ⟨rfl, rfl, rfl, by decide +kernel, rfl, by decide +kernel, by decide +kernel⟩
theorem ok_law_kind (T : Txt K w mg) : FnOk P w K mg base CX0 2 (He.fAd K ("_law_kind", none)) (fdAt K (He.fAd K ("_law_kind", none))) ["pot", "k", "rules"] (spKd K) := by
  refine T.F_law_kind.ok scKd (fun vs H Q E h => ?_) (fun cdv A outer s H vs Q E hr h => ?_)
  · obtain ⟨d, j, ru, rfl, _⟩ := h
    rfl
  · obtain ⟨d, j, ru, rfl, j7, hd, k⟩ := h
    refine ⟨_, PSs.nox (pss_cons (ps_set (i := 3) scKd.nd rfl (Or.inl rfl) (pe_lst (pa_cons pe_int (pa_cons pe_int (pa_cons pe_int (pa_cons (pe_op op_add pe_int (pe_call (ok_law_take T) (hr.mono (by first | decide | omega)) (by rfl) T.g_law_take (T.F_law_take).kp T.b_law_take .nil pass0 (pa_cons (pv 0) (pa_cons pe_int pa_nil)))) (pa_cons pe_int pa_nil)))))))
      (pss_cons (ps_set (i := 4) scKd.nd rfl (Or.inl rfl) (pe_ix (r := rIxL K) ix_list (pv 3) (pe_call (ok_law_take T) (hr.mono (by first | decide | omega)) (by rfl) T.g_law_take (T.F_law_take).kp T.b_law_take .nil pass0 (pa_cons (pv 0) (pa_cons pe_int pa_nil))) (fun _ _ => rfl)))
      (pss_cons (ps_set (i := 3) scKd.nd rfl (Or.inl rfl) (pe_lst (pa_cons pe_int (pa_cons pe_int (pa_cons pe_int (pa_cons (pe_op op_add pe_int (pe_call (ok_law_take T) (hr.mono (by first | decide | omega)) (by rfl) T.g_law_take (T.F_law_take).kp T.b_law_take .nil pass0 (pa_cons (pv 0) (pa_cons pe_int pa_nil)))) (pa_cons pe_int pa_nil)))))))
      (pss_cons (ps_set (i := 5) scKd.nd rfl (Or.inl rfl) (pe_ix (r := rIxL K) ix_list (pv 3) (pe_call (ok_law_take T) (hr.mono (by first | decide | omega)) (by rfl) T.g_law_take (T.F_law_take).kp T.b_law_take .nil pass0 (pa_cons (pv 0) (pa_cons pe_int pa_nil))) (fun _ _ => rfl)))
      (pss_cons (ps_set (i := 6) scKd.nd rfl (Or.inr rfl) (pe_call (ok_law_take T) (hr.mono (by first | decide | omega)) (by rfl) T.g_law_take (T.F_law_take).kp T.b_law_take .nil pass0 (pa_cons (pv 0) (pa_cons pe_int pa_nil))))
      (pss_cons (ps_if (pt_cmpR op_gt (pe_call (ok_law_take T) (hr.mono (by first | decide | omega)) (by rfl) T.g_law_take (T.F_law_take).kp T.b_law_take .nil pass0 (pa_cons (pv 0) (pa_cons pe_int pa_nil))) pe_int (nomark _)) (pss_one (ps_set (i := 6) scKd.nd rfl (Or.inr rfl) (pe_op op_or (pv 6) pe_int))) pss_nil)
      (pss_cons (ps_if (pt_cmpR op_ne (pe_op op_and (pv 6) pe_int) pe_int (nomark _)) (pss_one (ps_set (i := 6) scKd.nd rfl (Or.inr rfl) (pe_op op_or (pv 6) pe_int))) pss_nil)
      (pss_cons (ps_set (i := 7) scKd.nd rfl (Or.inr rfl) (pe_lst (pa_cons pe_str (pa_cons pe_str (pa_cons pe_str (pa_cons pe_str (pa_cons pe_str pa_nil)))))))
      (pss_cons (ps_set (i := 8) scKd.nd rfl (Or.inl rfl) (pe_callTy call_tuple_of (by rfl) T.n_tuple PyProof.Rows.Boot.«tuple» (pa_cons (pe_lc (own := [("i", 10)]) (g := gName 10) (by rfl) scKd.nd (pi_range1 (by rfl) T.n_range (pa_cons pe_int pa_nil)) (blkOk_by (own := [("i", 10)]) (N := ["pot", "k", "rules", "sizes", "wide", "high", "mask", "names", "traits", "own", "i"]) (sc := defScope s_law_kind) (by decide +kernel)) (fun _ _ _ _ _ => pg_name (i := 10) scKd.nd rfl (Or.inl rfl)) (fun _ _ _ _ _ => pts_one (pt_cmpR op_eq (pe_op op_and (pe_op op_shr (pv 6) (pv 10)) pe_int) pe_int (nomark _))) (fun _ _ _ _ _ => (pe_ix (r := rIxL K) ix_list (pv 7) (pv 10) (fun _ _ => rfl)))) pa_nil)))
      (pss_cons (ps_set (i := 9) scKd.nd rfl (Or.inl rfl) (pe_callTy call_tuple_of (by rfl) T.n_tuple PyProof.Rows.Boot.«tuple» (pa_cons (pe_lc (own := [("i", 10)]) (g := gName 10) (tt := tYes) (by rfl) scKd.nd (pi_range1 (by rfl) T.n_range (pa_cons pe_int pa_nil)) (blkOk_by (own := [("i", 10)]) (N := ["pot", "k", "rules", "sizes", "wide", "high", "mask", "names", "traits", "own", "i"]) (sc := defScope s_law_kind) (by decide +kernel)) (fun _ _ _ _ _ => pg_name (i := 10) scKd.nd rfl (Or.inl rfl)) (fun _ _ _ _ _ => pts_nil) (fun _ _ _ _ _ => (pe_op op_sub (pe_call (ok_law_take T) (hr.mono (by first | decide | omega)) (by rfl) T.g_law_take (T.F_law_take).kp T.b_law_take .nil pass0 (pa_cons (pv 0) (pa_cons pe_int pa_nil))) pe_int))) pa_nil)))
      (pss_one (ps_ret (pe_tup (pa_cons (pe_op op_mulS (pe_ix ix_str pe_str (pv 1) (fun _ _ => rfl)) (pe_op op_add pe_int (pe_call (ok_law_take T) (hr.mono (by first | decide | omega)) (by rfl) T.g_law_take (T.F_law_take).kp T.b_law_take .nil pass0 (pa_cons (pv 0) (pa_cons pe_int pa_nil))))) (pa_cons (pv 4) (pa_cons (pv 5) (pa_cons (pv 8) (pa_cons (pv 9) (pa_cons (pv 2) pa_nil))))))))))))))))))), ?_⟩
    have five : ∀ {a b c x e y : Int}, 0 ≤ y → y < 5 → (1 ≤ a ∧ a ≤ 16) → (1 ≤ b ∧ b ≤ 16) → (1 ≤ c ∧ c ≤ 16) → (1 ≤ x ∧ x ≤ 16) → (1 ≤ e ∧ e ≤ 16) → ∃ z : Int, atI [V.int a, V.int b, V.int c, V.int x, V.int e] y = some (.int z) ∧ 1 ≤ z ∧ z ≤ 16 := fun {a b c x e y} y0 y1 h1 h2 h3 h4 h5 => by
      obtain ⟨n, rfl⟩ := Int.eq_ofNat_of_zero_le y0
      have hn : n = 0 ∨ n = 1 ∨ n = 2 ∨ n = 3 ∨ n = 4 := by omega
      rcases hn with rfl | rfl | rfl | rfl | rfl
      · exact ⟨a, atI_nat rfl, h1⟩
      · exact ⟨b, atI_nat rfl, h2⟩
      · exact ⟨c, atI_nat rfl, h3⟩
      · exact ⟨x, atI_nat rfl, h4⟩
      · exact ⟨e, atI_nat rfl, h5⟩
    refine seq_cut (fun σ' H' => ∃ v3 : V, σ' = [some (.ref d), some (.int (j : Int)), some ru, some v3, none, none, none, none, none, none, none] ∧ (∃ x : Int, 1 ≤ x ∧ x ≤ 16 ∧ ∃ q : Addr, v3 = .ref q ∧ q ≠ d ∧ H' q = some (.lst [.int 8, .int 8, .int 4, .int x, .int 16])) ∧ Frm d H H' ∧ Pot H' d) (fun σ' H1 hP => ?_) (fun R hR => ?_)
    rotate_left
    · refine ⟨_, rfl, d, 16, rfl, by decide, by decide, hd, fun x H1 x0 x1 f1 d1 => ⟨_, _, rfl, rfl, (show 5 ≤ sizeLine by decide), fun q nq => hR _ _ ⟨_, rfl, ⟨1 + x, by omega, by omega, q, rfl, d1.ne nq, upd_same⟩, frm_new f1 (by
        cases e : H q with
        | none => rfl
        | some z => exact absurd ((f1 _ _ (d1.ne nq) e).symm.trans nq) (by simp)), d1.upd (d1.ne nq)⟩⟩⟩
    obtain ⟨v3, rfl, ⟨x, x1, x2, q, rfl, qd, hq⟩, f1, d1⟩ := hP
    refine seq_cut (fun σ' H' => ∃ (v3 : V) (wd : Int), σ' = [some (.ref d), some (.int (j : Int)), some ru, some v3, some (.int wd), none, none, none, none, none, none] ∧ 1 ≤ wd ∧ wd ≤ 16 ∧ Frm d H H' ∧ Pot H' d) (fun σ' H2 hP => ?_) (fun R hR => ?_)
    rotate_left
    · refine ⟨_, rfl, _, rfl, d, 5, rfl, by decide, by decide, d1, fun y H2 y0 y1 f2 d2 => ?_⟩
      obtain ⟨z, ez, z1, z2⟩ := five (a := 8) (b := 8) (c := 4) (x := x) (e := 16) y0 y1 (by decide) (by decide) (by decide) ⟨x1, x2⟩ (by decide)
      exact ⟨q, _, _, _, rfl, rfl, SqL.of (f2 _ _ qd hq), ez, hR _ _ ⟨_, z, rfl, z1, z2, f1.trans f2, d2⟩⟩
    clear hq f1 d1
    obtain ⟨v3, wd, rfl, w1, w2, f1, d1⟩ := hP
    refine seq_cut (fun σ' H' => ∃ v3 : V, σ' = [some (.ref d), some (.int (j : Int)), some ru, some v3, some (.int wd), none, none, none, none, none, none] ∧ (∃ x : Int, 1 ≤ x ∧ x ≤ 16 ∧ ∃ q : Addr, v3 = .ref q ∧ q ≠ d ∧ H' q = some (.lst [.int 8, .int 8, .int 6, .int x, .int 16])) ∧ Frm d H H' ∧ Pot H' d) (fun σ' H1 hP => ?_) (fun R hR => ?_)
    rotate_left
    · refine ⟨_, rfl, d, 16, rfl, by decide, by decide, d1, fun x H1 x0 x1 f2 d2 => ⟨_, _, rfl, rfl, (show 5 ≤ sizeLine by decide), fun q nq => hR _ _ ⟨_, rfl, ⟨1 + x, by omega, by omega, q, rfl, d2.ne nq, upd_same⟩, frm_new (f1.trans f2) (by
        cases e : H q with
        | none => rfl
        | some z => exact absurd (((f1.trans f2) _ _ (d2.ne nq) e).symm.trans nq) (by simp)), d2.upd (d2.ne nq)⟩⟩⟩
    clear x1 x2 qd f1 d1
    obtain ⟨v3, rfl, ⟨x, x1, x2, q, rfl, qd, hq⟩, f1, d1⟩ := hP
    refine seq_cut (fun σ' H' => ∃ (v3 : V) (hg : Int), σ' = [some (.ref d), some (.int (j : Int)), some ru, some v3, some (.int wd), some (.int hg), none, none, none, none, none] ∧ 1 ≤ hg ∧ hg ≤ 16 ∧ Frm d H H' ∧ Pot H' d) (fun σ' H2 hP => ?_) (fun R hR => ?_)
    rotate_left
    · refine ⟨_, rfl, _, rfl, d, 5, rfl, by decide, by decide, d1, fun y H2 y0 y1 f2 d2 => ?_⟩
      obtain ⟨z, ez, z1, z2⟩ := five (a := 8) (b := 8) (c := 6) (x := x) (e := 16) y0 y1 (by decide) (by decide) (by decide) ⟨x1, x2⟩ (by decide)
      exact ⟨q, _, _, _, rfl, rfl, SqL.of (f2 _ _ qd hq), ez, hR _ _ ⟨_, z, rfl, z1, z2, f1.trans f2, d2⟩⟩
    clear hq f1 d1
    obtain ⟨v3, hg, rfl, g1, g2, f1, d1⟩ := hP
    refine seq_cut (fun σ' H' => ∃ m : Int, σ' = [some (.ref d), some (.int (j : Int)), some ru, some v3, some (.int wd), some (.int hg), some (.int m), none, none, none, none] ∧ Frm d H H' ∧ Pot H' d) (fun σ' H2 hP => ?_) (fun R hR => ?_)
    rotate_left
    · exact ⟨_, rfl, d, 32, rfl, by decide, by decide, d1, fun y H2 y0 y1 f2 d2 => hR _ _ ⟨y, rfl, f1.trans f2, d2⟩⟩
    clear f1 d1
    obtain ⟨m, rfl, f1, d1⟩ := hP
    refine seq_cut (fun σ' H' => ∃ m : Int, σ' = [some (.ref d), some (.int (j : Int)), some ru, some v3, some (.int wd), some (.int hg), some (.int m), none, none, none, none] ∧ Frm d H H' ∧ Pot H' d) (fun σ' H2 hP => ?_) (fun R hR => ?_)
    rotate_left
    · refine ⟨_, rfl, d, 3, rfl, by decide, by decide, d1, fun y H2 y0 y1 f2 d2 => ⟨_, _, rfl, rfl, _, rfl, ite2 (fun _ => ?_) (fun _ => ?_)⟩⟩
      · exact ⟨_, rfl, _, _, rfl, rfl, hR _ _ ⟨_, rfl, f1.trans f2, d2⟩⟩
      · exact hR _ _ ⟨m, rfl, f1.trans f2, d2⟩
    clear f1 d1
    obtain ⟨m, rfl, f1, d1⟩ := hP
    refine seq_cut (fun σ' H' => ∃ m : Int, σ' = [some (.ref d), some (.int (j : Int)), some ru, some v3, some (.int wd), some (.int hg), some (.int m), none, none, none, none] ∧ Frm d H H' ∧ Pot H' d) (fun σ' H2 hP => ?_) (fun R hR => ?_)
    rotate_left
    · refine ⟨_, rfl, _, _, rfl, rfl, rfl, _, rfl, ite2 (fun _ => ?_) (fun _ => ?_)⟩
      · exact ⟨_, rfl, _, _, rfl, rfl, hR _ _ ⟨_, rfl, f1, d1⟩⟩
      · exact hR _ _ ⟨m, rfl, f1, d1⟩
    clear f1 d1
    obtain ⟨m, rfl, f1, d1⟩ := hP
    refine ⟨(show 5 ≤ sizeLine by decide), fun pn npn => ?_⟩
    have sn := new_same (o := .lst (trn.map V.str)) npn
    have hpn : (upd H2 pn (.lst (trn.map V.str))) pn = some (.lst (trn.map V.str)) := upd_same
    have pnd := d1.ne npn
    have f2 := f1.trans (Frm.of_same sn)
    have d2 := d1.same sn
    refine ⟨_, rfl, by decide, by decide, fun D hD => ?_⟩
    refine lc_it (walk_r0 (n := 5)) (fun i H3 => ∃ ts : List Str, Same (upd H2 pn (.lst (trn.map V.str))) H3 ∧ H3 D = some (.lst (ts.map V.str)) ∧ ts.length ≤ i) ⟨[], new_same hD, upd_same, Nat.le_refl _⟩ (fun _ _ _ _ => trivial) (fun i v H3 Hz hi h yy => ?_) (fun H3 h => ?_)
    · obtain ⟨rfl, rfl⟩ := yy
      obtain ⟨ts, s3, hl, hlen⟩ := h
      have b2 : (trn.map V.str)[i]? = some (.str (trn[i]'hi)) := by rw [List.getElem?_map, List.getElem?_eq_getElem (show i < trn.length from hi)]; rfl
      refine ⟨rfl, _, rfl, _, rfl, _, _, rfl, rfl, Int.natCast_nonneg i, _, _, rfl, rfl, rfl, _, rfl, ?_⟩
      refine ite2 (fun z => ?_) (fun z => ⟨ts, s3, hl, by omega⟩)
      refine ⟨_, rfl, _, rfl, pn, _, _, _, rfl, rfl, SqL.of (s3 _ _ hpn), atI_nat b2, _, hl, Nat.lt_of_le_of_lt (show (ts.map V.str).length ≤ 24 by rw [List.length_map]; omega) (by decide), ts ++ [trn[i]'hi], fun c o z => ?_, ?_, by simp [hlen]⟩
      · rw [upd_ne (ne_of_none z hD)]
        exact s3 _ _ z
      · rw [List.map_append]
        exact upd_same
    obtain ⟨ts, s3, hl, hlen⟩ := h
    refine ⟨D, _, rfl, .inl ⟨SqL.of hl, fun tt ntt => ?_⟩⟩
    have st := new_same (o := .tup (ts.map V.str)) ntt
    have htt : SqT K (upd H3 tt (.tup (ts.map V.str))) tt (ts.map V.str) := SqT.of upd_same
    have f4 := f2.trans (Frm.of_same (s3.trans st))
    have d4 := d2.same (s3.trans st)
    obtain ⟨H4, hH4⟩ : ∃ H4, H4 = upd H3 tt (.tup (ts.map V.str)) := ⟨_, rfl⟩
    rw [← hH4] at htt f4 d4
    show gName 8 _ _ (upd H3 tt (.tup (ts.map V.str))) _
    rw [← hH4]
    refine ⟨_, rfl, by decide, by decide, fun D2 hD2 => ?_⟩
    have D2d := d4.ne hD2
    refine lc_it (walk_r0 (n := 4)) (fun i H5 => ∃ acc : List V, Frm d H4 H5 ∧ Pot H5 d ∧ H5 D2 = some (.lst acc) ∧ acc.length = i) ⟨[], frm_new (Frm.refl _ _) hD2, d4.upd D2d, upd_same, rfl⟩ (fun _ _ _ _ => trivial) (fun i v H5 Hz hi h yy => ?_) (fun H5 h => ?_)
    · obtain ⟨rfl, rfl⟩ := yy
      obtain ⟨acc, f5, d5, hl5, hlen5⟩ := h
      refine ⟨rfl, ?_⟩
      dsimp only [tYes]
      rw [if_pos rfl]
      exact ⟨_, rfl, d, 1999, rfl, by decide, by decide, d5, fun y H6 _ _ f6 d6 => ⟨_, _, rfl, rfl, acc, f6 _ _ D2d hl5, Nat.lt_of_le_of_lt (show acc.length ≤ 24 by omega) (by decide), acc ++ [_], frm_new (f5.trans f6) hD2, d6.upd D2d, upd_same, by simp [hlen5]⟩⟩
    obtain ⟨acc, f5, d5, hl5, hlen5⟩ := h
    refine ⟨D2, _, rfl, .inl ⟨SqL.of hl5, fun ow now => ?_⟩⟩
    have f6 := (f4.trans f5).trans (Frm.of_same (new_same (o := .tup acc) now))
    have d6 := d5.same (new_same (o := .tup acc) now)
    have htt6 := (pot_tf (f5.trans (Frm.of_same (new_same (o := .tup acc) now))) d4).sq htt
    have hc : ∃ c, atI (Str.ofString "abcdefgh").cps.toList (j : Int) = some c := at_sign (z := Str.ofString "abcdefgh") (by omega) (by rw [show (Str.ofString "abcdefgh").length = 8 by decide]; omega)
    obtain ⟨c, hc⟩ := hc
    refine ⟨_, rfl, _, _, c, rfl, rfl, by decide, hc, ?_⟩
    refine ⟨_, rfl, d, 8, rfl, by decide, by decide, d6, fun y H7 y0 y1 f7 d7 => ?_⟩
    obtain ⟨n, rfl⟩ := Int.eq_ofNat_of_zero_le y0
    refine ⟨_, _, rfl, rfl, ⟨#[c]⟩, n + 1, rfl, congrArg V.int (show (1 : Int) + (n : Int) = ((n + 1 : Nat) : Int) by omega), by omega, by omega, Nat.le_refl 1, (show 1 ≤ 1000 by decide), fun z hz => ?_⟩
    refine ⟨_, rfl, _, rfl, _, rfl, _, rfl, _, rfl, (show 6 ≤ sizeLine by decide), fun a na => ?_⟩
    have s8 := new_same (o := .tup [V.str z, .int wd, .int hg, .ref tt, .ref ow, ru]) na
    have htt8 := (same_tf s8).sq ((pot_tf f7 d6).sq htt6)
    exact k a ⟨z, wd, hg, ts⟩ _ ((f6.trans f7).trans (Frm.of_same s8)) (d7.same s8) ⟨a, tt, .ref ow, ru, rfl, SqT.of upd_same, htt8⟩ ⟨w1, w2, g1, g2, hlen⟩
end
end K22
set_option maxRecDepth 100000
set_option maxHeartbeats 4000000
/-! Games, drawn. -/
namespace K22
open PySem PySem.Spec PyProof.Rows L2 KF KD KP
def KdsOk (l : List Kd) : Prop := l.length ≤ 8 ∧ ∀ k ∈ l, 1 ≤ k.w ∧ k.w ≤ 16 ∧ 1 ≤ k.h ∧ k.h ≤ 16 ∧ k.tr.length ≤ 5
section
variable {P : Program} {w : World} {K : PySem.W.Frag} {mg : Str → Option Value} {base : Heap}
def spGm (K : PySem.W.Frag) : Sp := fun vs H Q _ => ∃ (d : Addr) (ks : V) (gr : Int) (G0 : Gm), vs = [.ref d, ks, .int gr] ∧ 0 < gr ∧ gr < 1000 ∧ KdsOk G0.kds ∧ KsAt K H ks G0 ∧ Pot H d ∧ ∀ (v : V) (G : Gm) H', Frm d H H' → Pot H' d → G.ok → G.kds = G0.kds → GmAt K H' v G → Q v H'
theorem scGm : FnScope ["pot", "kinds", "great", "high", "wide", "rows", "houses"] ["pot", "kinds", "great"] (defScope s_law_game) := ⟨rfl, rfl, rfl, by decide +kernel, rfl, by decide +kernel, by decide +kernel⟩
theorem ok_law_game (T : Txt K w mg) : FnOk P w K mg base CX0 3 (He.fAd K ("_law_game", none)) (fdAt K (He.fAd K ("_law_game", none))) ["pot", "kinds", "great"] (spGm K) := by
  refine T.F_law_game.ok scGm (fun vs H Q E h => ?_) (fun cdv A outer s H vs Q E hr h => ?_)
  · obtain ⟨d, ks, gr, G0, rfl, _⟩ := h
    rfl
  · obtain ⟨d, ks, gr, G0, rfl, g0, g1, kok, hks, hd, k⟩ := h
    refine ⟨_, PSs.nox (pss_cons (ps_par (i := 3) (j := 4) (by rfl) scGm.nd rfl rfl (by decide) rfl rfl (pa_cons (pe_op op_add pe_int (pe_call (ok_law_take T) (hr.mono (by first | decide | omega)) (by rfl) T.g_law_take (T.F_law_take).kp T.b_law_take .nil pass0 (pa_cons (pv 0) (pa_cons pe_int pa_nil)))) (pa_cons (pe_op op_add pe_int (pe_call (ok_law_take T) (hr.mono (by first | decide | omega)) (by rfl) T.g_law_take (T.F_law_take).kp T.b_law_take .nil pass0 (pa_cons (pv 0) (pa_cons pe_int pa_nil)))) pa_nil)) (by rfl))
      (pss_cons (ps_if (pt_cmpR op_eq (pe_call (ok_law_take T) (hr.mono (by first | decide | omega)) (by rfl) T.g_law_take (T.F_law_take).kp T.b_law_take .nil pass0 (pa_cons (pv 0) (pa_cons (pv 2) pa_nil))) pe_int (nomark _)) (pss_one (ps_par (i := 3) (j := 4) (by rfl) scGm.nd rfl rfl (by decide) rfl rfl (pa_cons (pe_op op_add pe_int (pe_call (ok_law_take T) (hr.mono (by first | decide | omega)) (by rfl) T.g_law_take (T.F_law_take).kp T.b_law_take .nil pass0 (pa_cons (pv 0) (pa_cons pe_int pa_nil)))) (pa_cons (pe_op op_add pe_int (pe_call (ok_law_take T) (hr.mono (by first | decide | omega)) (by rfl) T.g_law_take (T.F_law_take).kp T.b_law_take .nil pass0 (pa_cons (pv 0) (pa_cons pe_int pa_nil)))) pa_nil)) (by rfl))) pss_nil)
      (pss_cons (ps_set (i := 5) scGm.nd rfl (Or.inl rfl) (pe_call (ok_law_rows T) (hr.mono (by first | decide | omega)) (by rfl) T.g_law_rows (T.F_law_rows).kp T.b_law_rows .nil pass0 (pa_cons (pv 0) (pa_cons (pv 3) (pa_cons (pv 4) pa_nil)))))
      (pss_cons (ps_set (i := 6) scGm.nd rfl (Or.inl rfl) (pe_op op_add pe_int (pe_call (ok_law_take T) (hr.mono (by first | decide | omega)) (by rfl) T.g_law_take (T.F_law_take).kp T.b_law_take .nil pass0 (pa_cons (pv 0) (pa_cons pe_int pa_nil)))))
      (pss_one (ps_ret (pe_tup (pa_cons (pe_tup (pa_cons (pv 5) (pa_cons (pe_tup pa_nil) (pa_cons (pv 6) (pa_cons (pe_call (ok_law_take T) (hr.mono (by first | decide | omega)) (by rfl) T.g_law_take (T.F_law_take).kp T.b_law_take .nil pass0 (pa_cons (pv 0) (pa_cons pe_int pa_nil))) pa_nil))))) (pa_cons (pv 1) pa_nil))))))))), ?_⟩
    refine seq_cut (fun σ' H' => ∃ W h : Int, σ' = [some (.ref d), some ks, some (.int gr), some (.int h), some (.int W), none, none] ∧ 4 ≤ W ∧ W ≤ 24 ∧ 3 ≤ h ∧ h ≤ 17 ∧ Frm d H H' ∧ Pot H' d) (fun σ' H' hP => ?_) (fun R hR => ?_)
    rotate_left
    · refine ⟨_, rfl, d, 6, rfl, by decide, by decide, hd, fun x1 H1 a0 a1 f1' d1' => ⟨_, _, rfl, rfl, _, rfl, d, 9, rfl, by decide, by decide, d1', fun x2 H2 b0 b1 f2 d2 => ⟨_, _, rfl, rfl, ?_⟩⟩⟩
      exact ⟨_, _, rfl, hR _ _ ⟨_, _, rfl, by omega, by omega, by omega, by omega, f1'.trans f2, d2⟩⟩
    obtain ⟨W0, h0, rfl, w1, w2, h1, h2, f1, d1⟩ := hP
    refine seq_cut (fun σ' H' => ∃ W h : Int, σ' = [some (.ref d), some ks, some (.int gr), some (.int h), some (.int W), none, none] ∧ 4 ≤ W ∧ W ≤ 24 ∧ 3 ≤ h ∧ h ≤ 17 ∧ Frm d H H' ∧ Pot H' d) (fun σ' H'' hP => ?_) (fun R hR => ?_)
    rotate_left
    · refine ⟨_, rfl, _, rfl, d, gr, rfl, g0, by omega, d1, fun y H1 y0 y1 f0 d0 => ⟨rfl, _, rfl, ite2 (fun z => ?_) (fun z => hR _ _ ⟨_, _, rfl, w1, w2, h1, h2, f1.trans f0, d0⟩)⟩⟩
      refine ⟨_, rfl, d, 14, rfl, by decide, by decide, d0, fun x1 H1 a0 a1 f1' d1' => ⟨_, _, rfl, rfl, _, rfl, d, 21, rfl, by decide, by decide, d1', fun x2 H2 b0 b1 f2 d2 => ⟨_, _, rfl, rfl, ?_⟩⟩⟩
      exact ⟨_, _, rfl, hR _ _ ⟨_, _, rfl, by omega, by omega, by omega, by omega, (f1.trans f0).trans (f1'.trans f2), d2⟩⟩
    clear w1 w2 h1 h2 d1 f1
    obtain ⟨W1, h1, rfl, w1, w2, h1', h2, f1, d1⟩ := hP
    obtain ⟨W, rfl⟩ := Int.eq_ofNat_of_zero_le (show 0 ≤ W1 by omega)
    obtain ⟨h, rfl⟩ := Int.eq_ofNat_of_zero_le (show 0 ≤ h1 by omega)
    refine ⟨_, rfl, _, rfl, _, rfl, d, h, W, rfl, by omega, by omega, d1, fun rs rows H2 f2 d2 hrs rl rw' => ?_⟩
    refine ⟨_, rfl, d, 4, rfl, by decide, by decide, d2, fun y H3 y0 y1 f3 d3 => ⟨_, _, rfl, rfl, ?_⟩⟩
    refine ⟨_, rfl, (show 0 ≤ sizeLine by decide), fun st nst => ⟨_, rfl, _, rfl, d, 4, rfl, by decide, by decide, d3.same (new_same nst), fun pu H4 _ _ f4 d4 => ⟨(show 4 ≤ sizeLine by decide), fun lv nlv => ⟨_, rfl, (show 2 ≤ sizeLine by decide), fun ga nga => ?_⟩⟩⟩⟩
    have fA := ((f1.trans f2).trans f3).trans ((Frm.of_same (new_same (o := .tup []) nst)).trans f4)
    have s5 := new_same (o := .tup [V.ref rs, .ref st, .int (1 + y), .int pu]) nlv
    have s6 := new_same (o := .tup [V.ref lv, ks]) nga
    have fB := fA.trans (Frm.of_same (s5.trans s6))
    have tfr := (pot_tf f3 d2).trans ((same_tf (new_same (o := .tup []) nst)).trans ((pot_tf f4 (d3.same (new_same nst))).trans (same_tf (s5.trans s6))))
    refine k (.ref ga) ⟨rows, W, 1 + y, G0.kds⟩ _ fB (d4.same (s5.trans s6)) ⟨by show 1 ≤ rows.length; omega, by show rows.length ≤ 20; omega, rw', by show 1 ≤ W; omega, by show W ≤ 30; omega, by show 1 ≤ 1 + y; omega, by show 1 + y ≤ 4; omega, kok.1, kok.2⟩ rfl ⟨ga, .ref lv, ks, rfl, SqT.of upd_same, ⟨lv, rs, _, _, rfl, (same_tf s6).sq (SqT.of upd_same), tfr.sq hrs⟩, KsAt.tf hks (pot_tf fB hd)⟩
theorem cutV_take {xs : List V} {n : Nat} (h : n ≤ xs.length) : cutV xs none (some (n : Int)) = xs.take n := by
  unfold cutV
  rw [HT.sIx_nat, HT.sIx_none, List.drop_zero, Nat.sub_zero, Nat.min_eq_left h]
def spWs (K : PySem.W.Frag) : Sp := fun vs H Q _ => ∃ (d wa : Addr) (g : V) (G : Gm) (sl : List (Option Tg)), vs = [.ref d, g, .ref wa] ∧ Pot H d ∧ GmAt K H g G ∧ SlAll G sl ∧ WlAt K H wa sl ∧ ∀ (v : V) H', Frm d H H' → Pot H' d → GmAt K H' v G → Q v H'
theorem scWs : FnScope ["pot", "game", "w", "starts", "rows", "none", "houses", "pull", "thing"] ["pot", "game", "w"] (defScope s_law_with_starts) := ⟨rfl, rfl, rfl, by decide +kernel, rfl, by decide +kernel, by decide +kernel⟩
theorem ok_law_with_starts (T : Txt K w mg) : FnOk P w K mg base CX0 2 (He.fAd K ("_law_with_starts", none)) (fdAt K (He.fAd K ("_law_with_starts", none))) ["pot", "game", "w"] (spWs K) := by
  refine T.F_law_with_starts.ok scWs (fun vs H Q E h => ?_) (fun cdv A outer s H vs Q E hr h => ?_)
  · obtain ⟨d, wa, g, G, sl, rfl, _⟩ := h
    rfl
  · obtain ⟨d, wa, g, G, sl, rfl, hd, hg, sa, hw, k⟩ := h
    refine ⟨_, PSs.nox (pss_cons (ps_setLc (i := 3) (own := [("thing", 8)]) (g := gName 8) (by rfl) scWs.nd rfl rfl (sw_true rfl rfl rfl (by decide +kernel)) (pi_list (pe_slice sl_list (pv 2) po_none (po_some pe_int))) (blkOk_by (own := [("thing", 8)]) (N := ["pot", "game", "w", "starts", "rows", "none", "houses", "pull", "thing"]) (sc := defScope s_law_with_starts) (by decide +kernel)) (fun _ _ _ _ _ => pg_name (i := 8) scWs.nd rfl (Or.inl rfl)) (fun _ _ _ _ _ => pts_one (pt_cmpR op_notN (pv 8) pe_non (nomark _))) (fun _ _ _ _ _ => (pe_slice (show SlR _ (rSlA K) from sl_tupA) (pv 8) po_none (po_some pe_int))))
      (pss_cons (ps_asg (pe_ix (r := rIxT K) ix_tup (pv 1) pe_int (fun _ _ => rfl)) (pg_tup (by rfl) (pgs_cons (pg_name (i := 4) scWs.nd rfl (Or.inl rfl)) (pgs_cons (pg_name (i := 5) scWs.nd rfl (Or.inl rfl)) (pgs_cons (pg_name (i := 6) scWs.nd rfl (Or.inl rfl)) (pgs_cons (pg_name (i := 7) scWs.nd rfl (Or.inl rfl)) pgs_nil))))))
      (pss_one (ps_ret (pe_tup (pa_cons (pe_tup (pa_cons (pv 4) (pa_cons (pe_callTy call_tuple_of (by rfl) T.n_tuple PyProof.Rows.Boot.«tuple» (pa_cons (pe_slice sl_list (pv 3) po_none (po_some (pe_call (ok_law_take T) (hr.mono (by first | decide | omega)) (by rfl) T.g_law_take (T.F_law_take).kp T.b_law_take .nil pass0 (pa_cons (pv 0) (pa_cons pe_int pa_nil))))) pa_nil)) (pa_cons (pv 6) (pa_cons (pv 7) pa_nil))))) (pa_cons (pe_ix (r := rIxT K) ix_tup (pv 1) pe_int (fun _ _ => rfl)) pa_nil))))))), ?_⟩
    obtain ⟨wv, hwv, wl, hws⟩ := id hw
    refine ⟨_, rfl, _, rfl, wa, wv, rfl, SqL.of hwv, fun p np => ?_⟩
    have ecut : cutV wv none (some 16) = wv.take 16 := cutV_take (n := 16) (by omega)
    rw [ecut]
    have sp := new_same (o := .lst (wv.take 16)) np
    have l16 : (wv.take 16).length = 16 := by rw [List.length_take]; omega
    refine ⟨p, rfl, ⟨_, SqL.of upd_same⟩, fun D hD => ?_⟩
    have hp : (upd H p (.lst (wv.take 16))) p = some (.lst (wv.take 16)) := upd_same
    obtain ⟨H1, hH1⟩ : ∃ H1, H1 = upd H p (.lst (wv.take 16)) := ⟨_, rfl⟩
    rw [← hH1] at sp hp hD ⊢
    refine lc_it (walk_list (K := K) (a := p) (xs := wv.take 16)) (fun i H' => ∃ acc : List V, Same H1 H' ∧ H' D = some (.lst acc) ∧ acc.length ≤ i) ⟨[], new_same hD, upd_same, Nat.le_refl _⟩ (fun i H' _ h => by obtain ⟨_, s, _⟩ := h; exact SqL.of (s _ _ hp)) (fun i v H' Hx hi h yy => ?_) (fun H' h => ?_)
    · obtain ⟨rfl, hv⟩ := yy
      obtain ⟨acc, sm, hl, al⟩ := h
      rw [List.getElem?_take, if_pos (by omega)] at hv
      refine ⟨rfl, ?_⟩
      obtain ⟨so, hso⟩ : ∃ so, sl[i]? = some so := ⟨_, List.getElem?_eq_getElem (by rw [sa.len]; omega)⟩
      obtain ⟨v', hv1, hv2⟩ := hws i so hso
      rw [hv] at hv1
      injection hv1 with hv1
      subst hv1
      refine ⟨_, rfl, rfl, _, rfl, ?_⟩
      cases so with
      | none =>
        obtain rfl : v = .non := hv2
        exact iteF ⟨acc, sm, hl, by omega⟩
      | some t =>
        obtain ⟨ta, ow, rfl, hta⟩ := hv2
        refine iteT ?_
        refine ⟨_, rfl, _, rfl, slA_gen (Q := fun y H4 => _) ((same_tf (sp.trans sm)).sq hta) fun q H4 s4 hq => ?_⟩
        refine ⟨acc, s4 _ _ hl, Nat.lt_of_le_of_lt (show acc.length ≤ 24 by omega) (by decide), acc ++ [_], fun c o z => ?_, upd_same, by rw [List.length_append]; simp only [List.length_cons, List.length_nil]; omega⟩
        rw [upd_ne (ne_of_none z hD)]
        exact s4 _ _ (sm _ _ z)
    obtain ⟨acc, sm, hl, al⟩ := h
    have S1 := sp.trans sm
    obtain ⟨ga, lv, ksv, rfl, sg, hlv, hks⟩ := id (hg.tf (same_tf S1))
    obtain ⟨la, rs, st, pu, rfl, hla, hrs⟩ := id hlv
    refine ⟨_, rfl, ga, _, _, _, rfl, rfl, sg, atI_nat (j := 0) rfl, la, _, rfl, hla, rfl, _, _, rfl, _, _, rfl, _, _, rfl, _, _, rfl, rfl, ?_⟩
    have d1 := hd.same S1
    have Dd : D ≠ d := (hd.same sp).ne hD
    refine ⟨_, rfl, _, rfl, _, rfl, d, 13, rfl, by decide, by decide, d1, fun y H2 y0 y1 f2 d2 => ⟨_, rfl, D, acc, rfl, SqL.of (f2 _ _ Dd hl), fun p2 np2 => ⟨p2, _, rfl, .inl ⟨SqL.of upd_same, fun pt npt => ?_⟩⟩⟩⟩
    have s3 := (new_same (o := .lst (cutV acc none (some y))) np2).trans (new_same (o := .tup (cutV acc none (some y))) npt)
    refine ⟨_, rfl, _, rfl, (show 4 ≤ sizeLine by decide), fun nl nnl => ⟨_, rfl, ga, [V.ref la, ksv], _, ksv, rfl, rfl, ?_, atI_nat (j := 1) rfl, (show 2 ≤ sizeLine by decide), fun ng nng => ?_⟩⟩
    · exact ((same_tf (s3.trans (new_same nnl)))).sq ((pot_tf f2 d1).sq sg)
    · have s4 := new_same (o := .tup [V.ref rs, .ref pt, .int G.ho, pu]) nnl
      have s5 := new_same (o := .tup [V.ref nl, ksv]) nng
      have tfr := (pot_tf f2 d1).trans (same_tf (s3.trans (s4.trans s5)))
      exact k (.ref ng) _ ((Frm.of_same S1).trans (f2.trans (Frm.of_same (s3.trans (s4.trans s5))))) (d2.same (s3.trans (s4.trans s5))) ⟨ng, .ref nl, ksv, rfl, SqT.of upd_same, ⟨nl, rs, _, _, rfl, (same_tf s5).sq (SqT.of upd_same), tfr.sq hrs⟩, hks.tf tfr⟩
end
end K22
set_option maxRecDepth 100000
set_option maxHeartbeats 4000000
/-! Whether a thing fits. -/
namespace K22
open PySem PySem.Spec PyProof.Rows L2 KF KD KP
/-- the things, drawn so far -/
def TsAt (K : PySem.W.Frag) (H : Hp) (ta : Addr) (sl : List (Option Tg)) : Prop := ∃ tv : List V, H ta = some (.lst tv) ∧ tv.length = 16 ∧ ∀ (i : Nat) (o : Option Tg), sl[i]? = some o → ∃ v : V, tv[i]? = some v ∧ SlAt K H v o
theorem TsAt.tf {K : PySem.W.Frag} {H H' : Hp} {ta : Addr} {sl : List (Option Tg)} (h : TsAt K H ta sl) (e : TF H H') (f : H' ta = H ta) : TsAt K H' ta sl := by
  obtain ⟨tv, h1, h2, h3⟩ := h
  exact ⟨tv, by rw [f]; exact h1, h2, fun i o z => by obtain ⟨v, g1, g2⟩ := h3 i o z; exact ⟨v, g1, g2.tf e⟩⟩
theorem TsAt.same {K : PySem.W.Frag} {H H' : Hp} {ta : Addr} {sl : List (Option Tg)} (h : TsAt K H ta sl) (e : Same H H') : TsAt K H' ta sl := by
  obtain ⟨tv, h1, _⟩ := id h
  exact h.tf (same_tf e) (by rw [h1]; exact e _ _ h1)
theorem TsAt.frm {K : PySem.W.Frag} {H H' : Hp} {ta d : Addr} {sl : List (Option Tg)} (h : TsAt K H ta sl) (hd : Pot H d) (f : Frm d H H') (n : ta ≠ d) : TsAt K H' ta sl := by
  obtain ⟨tv, h1, _⟩ := id h
  exact h.tf (pot_tf f hd) (by rw [h1]; exact f _ _ n h1)
/-- a list of things -/
def ThsAt (K : PySem.W.Frag) (H : Hp) (G : Gm) (l : List V) : Prop := ∀ v ∈ l, ∃ t kd, TgAt K H v t ∧ G.kds[t.k]? = some kd ∧ TgOk G t
theorem ThsAt.tf {K : PySem.W.Frag} {H H' : Hp} {G : Gm} {l : List V} (h : ThsAt K H G l) (e : TF H H') : ThsAt K H' G l := fun v m => by
  obtain ⟨t, kd, h1, h2⟩ := h v m
  exact ⟨t, kd, TgAt.tf h1 e, h2⟩
theorem lim_box {b : Bx} (x1 : -5000 ≤ b.x) (x2 : b.x ≤ 5000) (y1 : -5000 ≤ b.y) (y2 : b.y ≤ 5000) (w1 : 1 ≤ b.w) (w2 : b.w ≤ 20) (h1 : 1 ≤ b.h) (h2 : b.h ≤ 20) : b.lim := by
  refine ⟨?_, ?_, ?_, ?_, ?_, ?_, ?_, ?_⟩ <;> omega
section
variable {P : Program} {w : World} {K : PySem.W.Frag} {mg : Str → Option Value} {base : Heap}
def spFit (K : PySem.W.Frag) : Sp := fun vs H Q _ => ∃ (g : V) (ta : Addr) (G : Gm) (sl : List (Option Tg)) (n : Nat) (x y : Int), vs = [g, .ref ta, .int (n : Int), .int x, .int y] ∧ GmAt K H g G ∧ G.ok ∧ SlAll G sl ∧ TsAt K H ta sl ∧ n < G.kds.length ∧ -5000 ≤ x ∧ x ≤ 5000 ∧ -5000 ≤ y ∧ y ≤ 5000 ∧ ∀ (b : Bool) H', Same H H' → (b = true → 0 ≤ x ∧ x ≤ 1000 ∧ 0 ≤ y ∧ y < G.hi) → Q (.bl b) H'
theorem scFt : FnScope ["game", "things", "kind", "x", "y", "box", "others", "thing"] ["game", "things", "kind", "x", "y"] (defScope s_law_fits) := ⟨rfl, rfl, rfl, by decide +kernel, rfl, by decide +kernel, by decide +kernel⟩
theorem ok_law_fits (T : Txt K w mg) : FnOk P w K mg base CX0 5 (He.fAd K ("_law_fits", none)) (fdAt K (He.fAd K ("_law_fits", none))) ["game", "things", "kind", "x", "y"] (spFit K) := by
  refine T.F_law_fits.ok scFt (fun vs H Q E h => ?_) (fun cdv A outer s H vs Q E hr h => ?_)
  · obtain ⟨g, ta, G, sl, n, x, y, rfl, _⟩ := h
    rfl
  · obtain ⟨g, ta, G, sl, n, x, y, rfl, hg, o, sa, ht, hn, x1, x2, y1, y2, k⟩ := h
    refine ⟨_, PSs.nox (pss_cons (ps_set (i := 5) scFt.nd rfl (Or.inr rfl) (pe_tup (pa_cons (pv 3) (pa_cons (pv 4) (pa_cons (pe_ix (r := rIxT K) ix_tup (pe_ix (r := rIxT K) ix_tup (pe_ix (r := rIxT K) ix_tup (pv 0) pe_int (fun _ _ => rfl)) (pv 2) (fun _ _ => rfl)) pe_int (fun _ _ => rfl)) (pa_cons (pe_ix (r := rIxT K) ix_tup (pe_ix (r := rIxT K) ix_tup (pe_ix (r := rIxT K) ix_tup (pv 0) pe_int (fun _ _ => rfl)) (pv 2) (fun _ _ => rfl)) pe_int (fun _ _ => rfl)) pa_nil))))))
      (pss_cons (ps_if (PW.pt (pw_or (pt_cmpR op_ge (pv 4) (pe_ix (r := rIxT K) ix_tup (pe_call (ok_law_size T) (hr.mono (by first | decide | omega)) (by rfl) T.g_law_size (T.F_law_size).kp T.b_law_size .nil pass0 (pa_cons (pv 0) pa_nil)) pe_int (fun _ _ => rfl)) (nomark _)) (pw_or1 (pt_not (pt_val (pe_call (ok_law_free T) (hr.mono (by first | decide | omega)) (by rfl) T.g_law_free (T.F_law_free).kp T.b_law_free .nil pass0 (pa_cons (pv 0) (pa_cons (pv 5) pa_nil)))))))) (pss_one (ps_ret pe_bl)) pss_nil)
      (pss_cons (ps_if (pt_cmpR (r := rIn K true) op_notIn_seq pe_str (pe_ix (r := rIxT K) ix_tup (pe_ix (r := rIxT K) ix_tup (pe_ix (r := rIxT K) ix_tup (pv 0) pe_int (fun _ _ => rfl)) (pv 2) (fun _ _ => rfl)) pe_int (fun _ _ => rfl)) rfl) (pss_one (ps_ret pe_bl)) pss_nil)
      (pss_cons (ps_setLc (i := 6) (own := [("thing", 7)]) (g := gName 7) (by rfl) scFt.nd rfl rfl (sw_true rfl rfl rfl (by decide +kernel)) (pi_list (pv 1)) (blkOk_by (own := [("thing", 7)]) (N := ["game", "things", "kind", "x", "y", "box", "others", "thing"]) (sc := defScope s_law_fits) (by decide +kernel)) (fun _ _ _ _ _ => pg_name (i := 7) scFt.nd rfl (Or.inl rfl)) (fun _ _ _ _ _ => pts_one (PW.pt (pw_and (pt_cmpR op_notN (pv 7) pe_non (nomark _)) (pw_and1 (pt_val (pe_call (ok_law_has T) (hr.mono (by first | decide | omega)) (by rfl) T.g_law_has (T.F_law_has).kp T.b_law_has .nil pass0 (pa_cons (pv 0) (pa_cons (pv 7) (pa_cons pe_str pa_nil))))))))) (fun _ _ _ _ _ => (pv 7)))
      (pss_one (ps_ret (pe_not (pe_callB (cr_any rfl) (by rfl) T.n_any PyProof.Rows.Boot.«any» (pa_cons (pe_lc (own := [("thing", 7)]) (g := gName 7) (tt := tYes) (by rfl) scFt.nd (pi_list (pv 6)) (blkOk_by (own := [("thing", 7)]) (N := ["game", "things", "kind", "x", "y", "box", "others", "thing"]) (sc := defScope s_law_fits) (by decide +kernel)) (fun _ _ _ _ _ => pg_name (i := 7) scFt.nd rfl (Or.inl rfl)) (fun _ _ _ _ _ => pts_nil) (fun _ _ _ _ _ => (pe_call (ok_law_meet T) (hr.mono (by first | decide | omega)) (by rfl) T.g_law_meet (T.F_law_meet).kp T.b_law_meet .nil pass0 (pa_cons (pv 5) (pa_cons (pe_call (ok_law_box T) (hr.mono (by first | decide | omega)) (by rfl) T.g_law_box (T.F_law_box).kp T.b_law_box .nil pass0 (pa_cons (pv 0) (pa_cons (pv 7) pa_nil))) pa_nil))))) pa_nil))))))))), ?_⟩
    obtain ⟨ga, lv, ksv, rfl, sg, hlv, hks⟩ := id hg
    obtain ⟨ka, kv, rfl, hka, kl, hke⟩ := id hks
    obtain ⟨kd, hkd⟩ : ∃ kd, G.kds[n]? = some kd := ⟨_, List.getElem?_eq_getElem hn⟩
    obtain ⟨kw1, kw2, kh1, kh2, _⟩ := o.kw kd (List.mem_of_getElem? hkd)
    obtain ⟨kx, hkx, ⟨kp, kt, ow, ru, rfl, hkp, hkt⟩⟩ := hke n kd hkd
    refine ⟨_, rfl, _, rfl, _, rfl, ga, _, _, _, rfl, rfl, (same_tf (Same.refl H)).sq sg, atI_nat (j := 1) rfl, _, rfl, ka, kv, _, _, rfl, rfl, (same_tf (Same.refl H)).sq hka, atI_nat hkx, kp, _, _, _, rfl, rfl, (same_tf (Same.refl H)).sq hkp, atI_nat (j := 1) rfl, _, rfl, ga, _, _, _, rfl, rfl, (same_tf (Same.refl H)).sq sg, atI_nat (j := 1) rfl, _, rfl, ka, kv, _, _, rfl, rfl, (same_tf (Same.refl H)).sq hka, atI_nat hkx, kp, _, _, _, rfl, rfl, (same_tf (Same.refl H)).sq hkp, atI_nat (j := 2) rfl, (show 4 ≤ sizeLine by decide), fun pb npb => ?_⟩
    have s1 := new_same (o := .tup [V.int x, .int y, .int kd.w, .int kd.h]) npb
    have hb : BxAt K (upd H pb (.tup [V.int x, .int y, .int kd.w, .int kd.h])) (.ref pb) ⟨x, y, kd.w, kd.h⟩ := ⟨pb, rfl, SqT.of upd_same⟩
    have lim : (Bx.mk x y kd.w kd.h).lim := lim_box x1 x2 y1 y2 kw1 (by show kd.w ≤ 20; omega) kh1 (by show kd.h ≤ 20; omega)
    obtain ⟨H1, hH1⟩ : ∃ H1, H1 = upd H pb (.tup [V.int x, .int y, .int kd.w, .int kd.h]) := ⟨_, rfl⟩
    show gName 5 _ _ (upd H pb (.tup [V.int x, .int y, .int kd.w, .int kd.h])) _
    rw [← hH1] at s1 hb ⊢
    refine ⟨_, rfl, _, rfl, _, G, rfl, hg.tf (same_tf s1), o, fun ps H2 s2 hps => ⟨ps, _, _, _, rfl, rfl, SqT.of hps, atI_nat (j := 1) rfl, _, _, rfl, rfl, _, rfl, ite2 (fun z => iteT (k false H2 (s1.trans s2) (fun e => by cases e))) (fun z => ?_)⟩⟩
    have z : y < G.hi := by
      have : ¬ G.hi ≤ y := fun h => z (decide_eq_true h)
      omega
    refine ⟨_, rfl, _, rfl, _, .ref pb, G, _, rfl, hg.tf (same_tf (s1.trans s2)), o, hb.tf (same_tf s2), lim, fun H3 s3 => ?_⟩
    have S3 := (s1.trans s2).trans s3
    cases hfr : G.fr ⟨x, y, kd.w, kd.h⟩ with
    | false => exact ⟨_, rfl, iteT (k false H3 S3 (fun e => by cases e))⟩
    | true =>
      refine ⟨_, rfl, iteF ?_⟩
      have z : 0 ≤ x ∧ x ≤ 1000 ∧ 0 ≤ y ∧ y < G.hi := by
        have hW : G.wi = 8 * (G.W : Int) := rfl
        have := o.w2
        have no : ¬ (x < 0 ∨ y < 0 ∨ x + kd.w > G.wi) := fun h => by
          rw [fr_out lim h] at hfr
          cases hfr
        omega
      have t3 := same_tf S3
      refine ⟨_, rfl, ga, _, _, _, rfl, rfl, t3.sq sg, atI_nat (j := 1) rfl, _, rfl, ka, kv, _, _, rfl, rfl, t3.sq hka, atI_nat hkx, kp, _, _, _, rfl, rfl, t3.sq hkp, atI_nat (j := 3) rfl, kt, _, rfl, .inr (t3.sq hkt), rfl, by simp [List.all_map, flatV], _, rfl, ite2 (fun _ => k true H3 S3 fun _ => z) (fun _ => ?_)⟩
      obtain ⟨tv, htv, tl, hts⟩ := id (ht.same S3)
      refine ⟨_, rfl, ta, rfl, ⟨_, SqL.of htv⟩, fun D hD => ?_⟩
      refine lc_it (walk_list (K := K) (a := ta) (xs := tv)) (fun i H' => ∃ acc : List V, Same H3 H' ∧ H' D = some (.lst acc) ∧ acc.length ≤ i ∧ ThsAt K H3 G acc) ⟨[], new_same hD, upd_same, Nat.le_refl _, fun _ m => (List.not_mem_nil m).elim⟩ (fun i H' _ h => by obtain ⟨_, s, _⟩ := h; exact SqL.of (s _ _ htv)) (fun i v H' Hx hi h yy => ?_) (fun H' h => ?_)
      · obtain ⟨rfl, hv⟩ := yy
        obtain ⟨acc, sm, hl, al, hth⟩ := h
        refine ⟨rfl, ?_⟩
        obtain ⟨so, hso⟩ : ∃ so, sl[i]? = some so := ⟨_, List.getElem?_eq_getElem (by rw [sa.len]; omega)⟩
        obtain ⟨v', hv1, hv2⟩ := hts i so hso
        rw [hv] at hv1
        injection hv1 with hv1
        subst hv1
        refine ⟨_, rfl, rfl, _, rfl, ?_⟩
        cases so with
        | none =>
          obtain rfl : v = .non := hv2
          exact iteF (iteF ⟨acc, sm, hl, by omega, hth⟩)
        | some t =>
          have hv2 : TgAt K H3 v t := hv2
          obtain ⟨kd2, hkd2, _⟩ := (sa.ok t (List.mem_of_getElem? hso)).kd
          obtain ⟨tad, ow2, rfl, _⟩ := id hv2
          refine iteT ⟨_, rfl, _, rfl, _, _, G, t, kd2, "bars", rfl, hg.tf (same_tf (S3.trans sm)), TgAt.tf hv2 (same_tf sm), hkd2, _, rfl, ?_⟩
          cases hb2 : kd2.has "bars" with
          | false => exact iteF ⟨acc, sm, hl, by omega, hth⟩
          | true =>
            refine iteT ⟨_, rfl, acc, hl, Nat.lt_of_le_of_lt (show acc.length ≤ 24 by omega) (by decide), acc ++ [_], fun c o z => ?_, upd_same, by rw [List.length_append]; simp only [List.length_cons, List.length_nil]; omega, fun u m => ?_⟩
            · rw [upd_ne (ne_of_none z hD)]
              exact sm _ _ z
            · rcases List.mem_append.mp m with m | m
              · exact hth u m
              · rw [List.mem_singleton.mp m]
                exact ⟨t, kd2, hv2, hkd2, sa.ok t (List.mem_of_getElem? hso)⟩
      · obtain ⟨acc, sm, hl, al, hth⟩ := h
        refine ⟨_, rfl, D, rfl, ⟨_, SqL.of hl⟩, fun D2 hD2 => ?_⟩
        refine lc_it (walk_list (K := K) (a := D) (xs := acc)) (fun i H5 => ∃ bs : List Bool, Same H' H5 ∧ H5 D2 = some (.lst (bs.map V.bl)) ∧ bs.length ≤ i) ⟨[], new_same hD2, upd_same, Nat.le_refl _⟩ (fun i H5 _ h => by obtain ⟨_, s, _⟩ := h; exact SqL.of (s _ _ hl)) (fun i v H5 Hx hi h yy => ?_) (fun H5 h => ?_)
        · obtain ⟨rfl, hv⟩ := yy
          obtain ⟨bs, sm2, hl2, al2⟩ := h
          refine ⟨rfl, ?_⟩
          dsimp only [tYes]
          rw [if_pos rfl]
          obtain ⟨t, kd2, ht2, hkd2, tok⟩ := hth v (List.mem_of_getElem? hv)
          obtain ⟨tad, ow2, rfl, _⟩ := id ht2
          have S5 := (S3.trans sm).trans sm2
          refine ⟨_, rfl, _, rfl, _, rfl, _, _, G, t, kd2, rfl, hg.tf (same_tf S5), TgAt.tf ht2 (same_tf (sm.trans sm2)), hkd2, fun pc H6 s6 hpc => ?_⟩
          refine ⟨.ref pb, .ref pc, _, t.box kd2, rfl, hb.tf (same_tf ((s2.trans s3).trans ((sm.trans sm2).trans s6))), ⟨pc, rfl, SqT.of hpc⟩, ?_⟩
          refine ⟨_, s6 _ _ hl2, Nat.lt_of_le_of_lt (show (bs.map V.bl).length ≤ 24 by rw [List.length_map]; omega) (by decide), bs ++ [_], fun c o z => ?_, by rw [upd_same, List.map_append]; rfl, by rw [List.length_append]; simp only [List.length_cons, List.length_nil]; omega⟩
          rw [upd_ne (ne_of_none z hD2)]
          exact s6 _ _ (sm2 _ _ z)
        · obtain ⟨bs, sm2, hl2, al2⟩ := h
          exact ⟨D2, bs, rfl, SqL.of hl2, _, rfl, k _ H5 ((S3.trans sm).trans sm2) fun _ => z⟩
end
end K22
set_option maxRecDepth 100000
set_option maxHeartbeats 4000000
/-! Data of lists. -/
namespace K22
open PySem PySem.Spec PyProof.Rows L2 KF KD KP
section
variable {X : Cx}
def rNeNil (K : PySem.W.Frag) (c : Bool) : R2 := fun x y H Q => ∃ ds, Dp K H x (.list ds) ∧ Dp K H y (.list []) ∧ PyData.canLayAll0 ds = true ∧ Q (.bl (c == ds.isEmpty)) H
theorem eqv_nil (ds : List PyData) : PyData.eqv (.list ds) (.list []) = ds.isEmpty := by
  cases ds <;> simp [PyData.eqv, PyData.eqvAll]
theorem op_neNil (hu : X.A.units + 64 < cLine) : OpR X (compareOp .NotEq) (rNeNil X.K false) := by
  intro pins s σ H x y v u Q I rx ry h
  obtain ⟨ds, hd, he, hc, q⟩ := h
  obtain ⟨as, r1⟩ := Dp.reads I _ x v hd rx
  obtain ⟨bs, r2⟩ := Dp.reads I _ y u he ry
  have e : (PyData.list []).depth = 1 := by simp [PyData.depth, PyData.depthAll]
  refine SeqAt.compareNe_reads r1 r2 (by simpa [PyData.canLay0] using hc) (by simp [PyData.canLay0, PyData.canLayAll0]) (by rw [e]; have := Nat.min_le_right (PyData.list ds).depth 1; omega) ⟨.bl _, H, I, rfl, ?_⟩
  rw [eqv_nil]
  simpa using q
end
theorem alok_lay : ∀ (n : Nat) (d : PyData), AlOk n d → d.canLay0 = true
  | _, .none, _ => rfl
  | _, .int _, _ => rfl
  | n + 1, .tuple ds, h => by
    have g : ∀ l : List PyData, (∀ e ∈ l, AlOk n e) → PyData.canLayAll0 l = true := fun l => by
      induction l with
      | nil => exact fun _ => rfl
      | cons d l ih =>
        intro hl
        rw [PyData.canLayAll0, alok_lay n d (hl d List.mem_cons_self), ih fun e he => hl e (List.mem_cons_of_mem _ he)]
        rfl
    rw [PyData.canLay0]
    exact g ds h.2
  | 0, .tuple _, h => h.elim
  | 0, .bool _, h => h.elim
  | _ + 1, .bool _, h => h.elim
  | 0, .str _, h => h.elim
  | _ + 1, .str _, h => h.elim
  | 0, .list _, h => h.elim
  | _ + 1, .list _, h => h.elim
  | 0, .dict _, h => h.elim
  | _ + 1, .dict _, h => h.elim
def DL (K : PySem.W.Frag) (H : Hp) (l : List V) : Prop := ∀ v ∈ l, ∃ d, Dp K H v d ∧ AlOk 2 d
theorem DL.tf {K : PySem.W.Frag} {H H' : Hp} {l : List V} (h : DL K H l) (e : TF H H') : DL K H' l := fun v m => by
  obtain ⟨d, h1, h2⟩ := h v m
  exact ⟨d, dp_nl e _ _ (alok_nl _ _ h2) h1, h2⟩
theorem DL.all {K : PySem.W.Frag} {H : Hp} : ∀ {l : List V}, DL K H l → ∃ ds, DpAll K H l ds ∧ (∀ e ∈ ds, AlOk 2 e) ∧ PyData.canLayAll0 ds = true ∧ ds.length = l.length
  | [], _ => ⟨[], .nil, fun _ m => (List.not_mem_nil m).elim, rfl, rfl⟩
  | v :: l, h => by
    obtain ⟨d, h1, h2⟩ := h v List.mem_cons_self
    obtain ⟨ds, g1, g2, g3, g4⟩ := DL.all (l := l) fun u m => h u (List.mem_cons_of_mem _ m)
    refine ⟨d :: ds, .cons h1 g1, fun e m => ?_, ?_, by rw [List.length_cons, List.length_cons, g4]⟩
    · rcases List.mem_cons.mp m with rfl | m
      · exact h2
      · exact g2 e m
    · rw [PyData.canLayAll0, alok_lay _ _ h2, g3]
      rfl
/-- is the list not the empty one -/
theorem ne_nil {K : PySem.W.Frag} {H : Hp} {a b : Addr} {l : List V} {Q : VK} (hl : H a = some (.lst l)) (hb : H b = some (.lst [])) (d : DL K H l) (q : Q (.bl (!l.isEmpty)) H) : rNeNil K false (.ref a) (.ref b) H Q := by
  obtain ⟨ds, g1, _, g3, g4⟩ := DL.all d
  refine ⟨ds, .lst (SqL.of hl) g1, .lst (SqL.of hb) .nil, g3, ?_⟩
  have e : (false == ds.isEmpty) = !l.isEmpty := by
    cases ds with
    | nil =>
      cases l with
      | nil => rfl
      | cons v l => cases g4
    | cons d ds =>
      cases l with
      | nil => cases g4
      | cons v l => rfl
  rw [e]
  exact q
theorem tg_al {K : PySem.W.Frag} {H : Hp} {a oa : Addr} {t : Tg} (h : SqT K H a [.int (t.k : Int), .int t.hs, .int t.x, .int t.y, .int t.dx, .int t.dy, .int t.rest, .ref oa]) (ho : SqT K H oa (t.own.map V.int)) (hl : t.own.length ≤ 1000) : ∃ d, Dp K H (.ref a) d ∧ AlOk 2 d := by
  have ha : ∀ l : List Int, DpAll K H (l.map V.int) (l.map PyData.int) := fun l => by
    induction l with
    | nil => exact .nil
    | cons x l ih => exact .cons (.int x) ih
  refine ⟨.tuple [.int (t.k : Int), .int t.hs, .int t.x, .int t.y, .int t.dx, .int t.dy, .int t.rest, .tuple (t.own.map PyData.int)], .tup h (.cons (.int _) (.cons (.int _) (.cons (.int _) (.cons (.int _) (.cons (.int _) (.cons (.int _) (.cons (.int _) (.cons (.tup ho (ha _)) .nil)))))))), (show 8 ≤ 1000 by decide), fun e m => ?_⟩
  have hO : AlOk 1 (.tuple (t.own.map PyData.int)) := ⟨by rw [List.length_map]; exact hl, fun e m => by
    obtain ⟨x, _, rfl⟩ := List.mem_map.mp m
    trivial⟩
  simp only [List.mem_cons, List.not_mem_nil, or_false] at m
  rcases m with rfl | rfl | rfl | rfl | rfl | rfl | rfl | rfl
  iterate 7 trivial
  exact hO
/-- a thing, with its data -/
def TgX (K : PySem.W.Frag) (H : Hp) (v : V) (t : Tg) : Prop := ∃ (a oa : Addr), v = .ref a ∧ SqT K H a [.int (t.k : Int), .int t.hs, .int t.x, .int t.y, .int t.dx, .int t.dy, .int t.rest, .ref oa] ∧ SqT K H oa (t.own.map V.int) ∧ t.own.length ≤ 1000
theorem TgX.at' {K : PySem.W.Frag} {H : Hp} {v : V} {t : Tg} (h : TgX K H v t) : TgAt K H v t := by
  obtain ⟨a, oa, h1, h2, _⟩ := h
  exact ⟨a, .ref oa, h1, h2⟩
theorem TgX.tf {K : PySem.W.Frag} {H H' : Hp} {v : V} {t : Tg} (h : TgX K H v t) (e : TF H H') : TgX K H' v t := by
  obtain ⟨a, oa, h1, h2, h3, h4⟩ := h
  exact ⟨a, oa, h1, e.sq h2, e.sq h3, h4⟩
theorem TgX.al {K : PySem.W.Frag} {H : Hp} {v : V} {t : Tg} (h : TgX K H v t) : ∃ d, Dp K H v d ∧ AlOk 2 d := by
  obtain ⟨a, oa, rfl, h2, h3, h4⟩ := h
  exact tg_al h2 h3 h4
def SlX (K : PySem.W.Frag) (H : Hp) (v : V) : Option Tg → Prop
  | none => v = .non
  | some t => TgX K H v t
theorem SlX.at' {K : PySem.W.Frag} {H : Hp} {v : V} {o : Option Tg} (h : SlX K H v o) : SlAt K H v o := by
  cases o with
  | none => exact h
  | some t => exact TgX.at' h
theorem SlX.tf {K : PySem.W.Frag} {H H' : Hp} {v : V} {o : Option Tg} (h : SlX K H v o) (e : TF H H') : SlX K H' v o := by
  cases o with
  | none => exact h
  | some t => exact TgX.tf h e
/-- the things, with their data -/
def TsD (K : PySem.W.Frag) (H : Hp) (ta : Addr) (sl : List (Option Tg)) : Prop := ∃ tv : List V, H ta = some (.lst tv) ∧ tv.length = 16 ∧ (∀ (i : Nat) (o : Option Tg), sl[i]? = some o → ∃ v : V, tv[i]? = some v ∧ SlX K H v o) ∧ DL K H tv
theorem TsD.ts {K : PySem.W.Frag} {H : Hp} {ta : Addr} {sl : List (Option Tg)} (h : TsD K H ta sl) : TsAt K H ta sl := by
  obtain ⟨tv, h1, h2, h3, _⟩ := h
  exact ⟨tv, h1, h2, fun i o z => by obtain ⟨v, g1, g2⟩ := h3 i o z; exact ⟨v, g1, g2.at'⟩⟩
theorem TsD.tf {K : PySem.W.Frag} {H H' : Hp} {ta : Addr} {sl : List (Option Tg)} (h : TsD K H ta sl) (e : TF H H') (f : H' ta = H ta) : TsD K H' ta sl := by
  obtain ⟨tv, h1, h2, h3, h4⟩ := h
  exact ⟨tv, by rw [f]; exact h1, h2, fun i o z => by obtain ⟨v, g1, g2⟩ := h3 i o z; exact ⟨v, g1, g2.tf e⟩, h4.tf e⟩
theorem TsD.same {K : PySem.W.Frag} {H H' : Hp} {ta : Addr} {sl : List (Option Tg)} (h : TsD K H ta sl) (e : Same H H') : TsD K H' ta sl := by
  obtain ⟨tv, h1, _⟩ := id h
  exact h.tf (same_tf e) (by rw [h1]; exact e _ _ h1)
theorem TsD.frm {K : PySem.W.Frag} {H H' : Hp} {ta d : Addr} {sl : List (Option Tg)} (h : TsD K H ta sl) (hd : Pot H d) (f : Frm d H H') (n : ta ≠ d) : TsD K H' ta sl := by
  obtain ⟨tv, h1, _⟩ := id h
  exact h.tf (pot_tf f hd) (by rw [h1]; exact f _ _ n h1)
theorem TsAt.ne {K : PySem.W.Frag} {H : Hp} {ta d : Addr} {G : Gm} {sl : List (Option Tg)} (h : TsAt K H ta sl) (sa : SlAll G sl) (hd : Pot H d) : ta ≠ d := fun e => by
  obtain ⟨tv, h1, h2, h3⟩ := h
  obtain ⟨r, m, i, cs, g1, _⟩ := hd
  rw [e, g1] at h1
  injection h1 with h1
  injection h1 with h1
  obtain ⟨v, h4, h5⟩ := h3 0 (sl[0]'(by rw [sa.len]; decide)) (List.getElem?_eq_getElem _)
  rw [← h1] at h4
  injection h4 with h4
  subst h4
  cases hs : sl[0]'(by rw [sa.len]; decide) with
  | none =>
    rw [hs] at h5
    cases h5
  | some t =>
    rw [hs] at h5
    obtain ⟨_, _, h5, _⟩ := h5
    cases h5
section
end
end K22
set_option maxRecDepth 100000
set_option maxHeartbeats 4000000
/-! A spot, drawn. -/
namespace K22
open PySem PySem.Spec PyProof.Rows L2 KF KD KP
def Bd (x y : Int) : Prop := -5000 ≤ x ∧ x ≤ 5000 ∧ -5000 ≤ y ∧ y ≤ 5000
theorem pick6 {K : PySem.W.Frag} {H : Hp} {p0 p1 p2 p3 : Addr} {a0 b0 a1 b1 a2 b2 a3 b3 w : Int} (h0 : SqT K H p0 [.int a0, .int b0]) (h1 : SqT K H p1 [.int a1, .int b1]) (h2 : SqT K H p2 [.int a2, .int b2]) (h3 : SqT K H p3 [.int a3, .int b3]) (g0 : Bd a0 b0) (g1 : Bd a1 b1) (g2 : Bd a2 b2) (g3 : Bd a3 b3) (w0 : 0 ≤ w) (w1 : w < 6) : ∃ (pv : Addr) (x y : Int), atI [V.ref p0, .ref p0, .ref p0, .ref p1, .ref p2, .ref p3] w = some (.ref pv) ∧ SqT K H pv [.int x, .int y] ∧ Bd x y := by
  obtain ⟨n, rfl⟩ := Int.eq_ofNat_of_zero_le w0
  have hn : n = 0 ∨ n = 1 ∨ n = 2 ∨ n = 3 ∨ n = 4 ∨ n = 5 := by omega
  rcases hn with rfl | rfl | rfl | rfl | rfl | rfl
  · exact ⟨p0, _, _, atI_nat rfl, h0, g0⟩
  · exact ⟨p0, _, _, atI_nat rfl, h0, g0⟩
  · exact ⟨p0, _, _, atI_nat rfl, h0, g0⟩
  · exact ⟨p1, _, _, atI_nat rfl, h1, g1⟩
  · exact ⟨p2, _, _, atI_nat rfl, h2, g2⟩
  · exact ⟨p3, _, _, atI_nat rfl, h3, g3⟩
section
variable {P : Program} {w : World} {K : PySem.W.Frag} {mg : Str → Option Value} {base : Heap}
def spSpt (K : PySem.W.Frag) : Sp := fun vs H Q _ => ∃ (d ta : Addr) (g : V) (G : Gm) (sl : List (Option Tg)) (n : Nat), vs = [.ref d, g, .ref ta, .int (n : Int)] ∧ Pot H d ∧ GmAt K H g G ∧ G.ok ∧ SlAll G sl ∧ TsD K H ta sl ∧ n < G.kds.length ∧ ∀ (p : Addr) (x y : Int) H', Frm d H H' → Pot H' d → SqT K H' p [.int x, .int y] → -5000 ≤ x ∧ x ≤ 5000 ∧ -5000 ≤ y ∧ y ≤ 5000 → Q (.ref p) H'
theorem scSp : FnScope ["pot", "game", "things", "kind", "wide", "high", "own_wide", "own_high", "x", "y", "way", "others", "near", "box", "along", "beside", "over", "turn", "thing"] ["pot", "game", "things", "kind"] (defScope s_law_spot) := ⟨rfl, rfl, rfl, by decide +kernel, rfl, by decide +kernel, by decide +kernel⟩
theorem ok_law_spot (T : Txt K w mg) : FnOk P w K mg base CX0 6 (He.fAd K ("_law_spot", none)) (fdAt K (He.fAd K ("_law_spot", none))) ["pot", "game", "things", "kind"] (spSpt K) := by
  refine T.F_law_spot.ok scSp (fun vs H Q E h => ?_) (fun cdv A outer s H vs Q E hr h => ?_)
  · obtain ⟨d, ta, g, G, sl, n, rfl, _⟩ := h
    rfl
  · obtain ⟨d, ta, g, G, sl, n, rfl, hd, hg, o, sa, ht, hn, k⟩ := h
    refine ⟨_, PSs.nox (pss_cons (ps_asg (pe_call (ok_law_size T) (hr.mono (by first | decide | omega)) (by rfl) T.g_law_size (T.F_law_size).kp T.b_law_size .nil pass0 (pa_cons (pv 1) pa_nil)) (pg_tup (by rfl) (pgs_cons (pg_name (i := 4) scSp.nd rfl (Or.inl rfl)) (pgs_cons (pg_name (i := 5) scSp.nd rfl (Or.inl rfl)) pgs_nil))))
      (pss_cons (ps_par (i := 6) (j := 7) (by rfl) scSp.nd rfl rfl (by decide) rfl rfl (pa_cons (pe_ix (r := rIxT K) ix_tup (pe_ix (r := rIxT K) ix_tup (pe_ix (r := rIxT K) ix_tup (pv 1) pe_int (fun _ _ => rfl)) (pv 3) (fun _ _ => rfl)) pe_int (fun _ _ => rfl)) (pa_cons (pe_ix (r := rIxT K) ix_tup (pe_ix (r := rIxT K) ix_tup (pe_ix (r := rIxT K) ix_tup (pv 1) pe_int (fun _ _ => rfl)) (pv 3) (fun _ _ => rfl)) pe_int (fun _ _ => rfl)) pa_nil)) (by rfl))
      (pss_cons (ps_par (i := 8) (j := 9) (by rfl) scSp.nd rfl rfl (by decide) rfl rfl (pa_cons (pe_call (ok_law_take T) (hr.mono (by first | decide | omega)) (by rfl) T.g_law_take (T.F_law_take).kp T.b_law_take .nil pass0 (pa_cons (pv 0) (pa_cons (pv 4) pa_nil))) (pa_cons (pe_call (ok_law_take T) (hr.mono (by first | decide | omega)) (by rfl) T.g_law_take (T.F_law_take).kp T.b_law_take .nil pass0 (pa_cons (pv 0) (pa_cons (pv 5) pa_nil))) pa_nil)) (by rfl))
      (pss_cons (ps_set (i := 10) scSp.nd rfl (Or.inl rfl) (pe_call (ok_law_take T) (hr.mono (by first | decide | omega)) (by rfl) T.g_law_take (T.F_law_take).kp T.b_law_take .nil pass0 (pa_cons (pv 0) (pa_cons pe_int pa_nil))))
      (pss_cons (ps_setLc (i := 11) (own := [("thing", 18)]) (g := gName 18) (by rfl) scSp.nd rfl rfl (sw_true rfl rfl rfl (by decide +kernel)) (pi_list (pv 2)) (blkOk_by (own := [("thing", 18)]) (N := ["pot", "game", "things", "kind", "wide", "high", "own_wide", "own_high", "x", "y", "way", "others", "near", "box", "along", "beside", "over", "turn", "thing"]) (sc := defScope s_law_spot) (by decide +kernel)) (fun _ _ _ _ _ => pg_name (i := 18) scSp.nd rfl (Or.inl rfl)) (fun _ _ _ _ _ => pts_one (pt_cmpR op_notN (pv 18) pe_non (nomark _))) (fun _ _ _ _ _ => (pv 18)))
      (pss_cons (ps_if (PW.pt (pw_and (pt_cmpR op_lt (pv 10) pe_int (nomark _)) (pw_and1 (pt_cmpR (r := rNeNil K false) (op_neNil hr.units) (pv 11) (pe_lst pa_nil) (nomark _))))) (pss_cons (ps_set (i := 12) scSp.nd rfl (Or.inl rfl) (pe_callB (call_min2 rfl) (by rfl) T.n_min PyProof.Rows.Boot.«min» (pa_cons (pe_call (ok_law_take T) (hr.mono (by first | decide | omega)) (by rfl) T.g_law_take (T.F_law_take).kp T.b_law_take .nil pass0 (pa_cons (pv 0) (pa_cons (pe_callB (r := Evl.rLenS K) call_len_seq (by rfl) T.n_len PyProof.Rows.Boot.«len» (pa_cons (pv 11) pa_nil)) pa_nil))) (pa_cons (pe_call (ok_law_take T) (hr.mono (by first | decide | omega)) (by rfl) T.g_law_take (T.F_law_take).kp T.b_law_take .nil pass0 (pa_cons (pv 0) (pa_cons (pe_callB (r := Evl.rLenS K) call_len_seq (by rfl) T.n_len PyProof.Rows.Boot.«len» (pa_cons (pv 11) pa_nil)) pa_nil))) pa_nil))))
      (pss_cons (ps_set (i := 13) scSp.nd rfl (Or.inl rfl) (pe_call (ok_law_box T) (hr.mono (by first | decide | omega)) (by rfl) T.g_law_box (T.F_law_box).kp T.b_law_box .nil pass0 (pa_cons (pv 1) (pa_cons (pe_ix (r := rIxL K) ix_list (pv 11) (pv 12) (fun _ _ => rfl)) pa_nil))))
      (pss_cons (ps_set (i := 14) scSp.nd rfl (Or.inl rfl) (pe_op op_add (pe_op op_sub (pe_op op_add (pe_ix (r := rIxT K) ix_tup (pv 13) pe_int (fun _ _ => rfl)) (pe_call (ok_law_take T) (hr.mono (by first | decide | omega)) (by rfl) T.g_law_take (T.F_law_take).kp T.b_law_take .nil pass0 (pa_cons (pv 0) (pa_cons (pe_op op_sub (pe_op op_add (pe_ix (r := rIxT K) ix_tup (pv 13) pe_int (fun _ _ => rfl)) (pv 6)) pe_int) pa_nil)))) (pv 6)) pe_int))
      (pss_cons (ps_set (i := 15) scSp.nd rfl (Or.inl rfl) (pe_op op_add (pe_op op_sub (pe_op op_add (pe_ix (r := rIxT K) ix_tup (pv 13) pe_int (fun _ _ => rfl)) (pe_call (ok_law_take T) (hr.mono (by first | decide | omega)) (by rfl) T.g_law_take (T.F_law_take).kp T.b_law_take .nil pass0 (pa_cons (pv 0) (pa_cons (pe_op op_sub (pe_op op_add (pe_ix (r := rIxT K) ix_tup (pv 13) pe_int (fun _ _ => rfl)) (pv 7)) pe_int) pa_nil)))) (pv 7)) pe_int))
      (pss_cons (ps_set (i := 16) scSp.nd rfl (Or.inl rfl) (pe_tup (pa_cons (pv 14) (pa_cons (pe_op op_sub (pe_ix (r := rIxT K) ix_tup (pv 13) pe_int (fun _ _ => rfl)) (pv 7)) pa_nil))))
      (pss_one (ps_asg (pe_ix (r := rIxL K) ix_list (pe_lst (pa_cons (pv 16) (pa_cons (pv 16) (pa_cons (pv 16) (pa_cons (pe_tup (pa_cons (pe_op op_add (pe_op op_add (pe_ix (r := rIxT K) ix_tup (pv 13) pe_int (fun _ _ => rfl)) (pe_ix (r := rIxT K) ix_tup (pv 13) pe_int (fun _ _ => rfl))) (pe_call (ok_law_take T) (hr.mono (by first | decide | omega)) (by rfl) T.g_law_take (T.F_law_take).kp T.b_law_take .nil pass0 (pa_cons (pv 0) (pa_cons pe_int pa_nil)))) (pa_cons (pv 15) pa_nil))) (pa_cons (pe_tup (pa_cons (pe_op op_sub (pe_op op_sub (pe_ix (r := rIxT K) ix_tup (pv 13) pe_int (fun _ _ => rfl)) (pv 6)) (pe_call (ok_law_take T) (hr.mono (by first | decide | omega)) (by rfl) T.g_law_take (T.F_law_take).kp T.b_law_take .nil pass0 (pa_cons (pv 0) (pa_cons pe_int pa_nil)))) (pa_cons (pv 15) pa_nil))) (pa_cons (pe_tup (pa_cons (pv 14) (pa_cons (pe_op op_add (pe_ix (r := rIxT K) ix_tup (pv 13) pe_int (fun _ _ => rfl)) (pe_ix (r := rIxT K) ix_tup (pv 13) pe_int (fun _ _ => rfl))) pa_nil))) pa_nil))))))) (pv 10) (fun _ _ => rfl)) (pg_tup (by rfl) (pgs_cons (pg_name (i := 8) scSp.nd rfl (Or.inl rfl)) (pgs_cons (pg_name (i := 9) scSp.nd rfl (Or.inl rfl)) pgs_nil)))))))))) (pss_one (ps_if (PW.pt (pw_and (pt_cmpR op_lt (pv 10) pe_int (nomark _)) (pw_and1 (pt_val (pe_call (ok_law_free T) (hr.mono (by first | decide | omega)) (by rfl) T.g_law_free (T.F_law_free).kp T.b_law_free .nil pass0 (pa_cons (pv 1) (pa_cons (pe_tup (pa_cons (pv 8) (pa_cons (pv 9) (pa_cons (pv 6) (pa_cons (pv 7) pa_nil))))) pa_nil))))))) (pss_one (ps_for PassesOwn.never rfl (pi_range1 (by rfl) T.n_range (pa_cons (pe_op op_sub (pe_op op_sub (pv 5) pe_int) (pv 9)) pa_nil)) (pg_name (i := 17) scSp.nd rfl (Or.inl rfl)) (pss_cons (ps_if (pt_val (pe_call (ok_law_stops T) (hr.mono (by first | decide | omega)) (by rfl) T.g_law_stops (T.F_law_stops).kp T.b_law_stops .nil pass0 (pa_cons (pv 1) (pa_cons (pe_tup (pa_cons (pv 8) (pa_cons (pv 9) (pa_cons (pv 6) (pa_cons (pv 7) pa_nil))))) (pa_cons pe_int (pa_cons pe_int pa_nil)))))) (pss_one ps_break) pss_nil)
      (pss_one (ps_aug (i := 9) scSp.nd rfl (Or.inl rfl) pe_int ip_add))))) pss_nil)))
      (pss_one (ps_ret (pe_tup (pa_cons (pv 8) (pa_cons (pv 9) pa_nil))))))))))), ?_⟩
    obtain ⟨ga, lv, ksv, rfl, sg, hlv, hks⟩ := id hg
    obtain ⟨ka, kv, rfl, hka, kl, hke⟩ := id hks
    obtain ⟨kd, hkd⟩ : ∃ kd, G.kds[n]? = some kd := ⟨_, List.getElem?_eq_getElem hn⟩
    obtain ⟨kw1, kw2, kh1, kh2, _⟩ := o.kw kd (List.mem_of_getElem? hkd)
    obtain ⟨kx, hkx, ⟨kp, kt, ow, ru, rfl, hkp, hkt⟩⟩ := hke n kd hkd
    have hW : G.wi = 8 * (G.W : Int) := rfl
    have hHi : G.hi = 8 * (G.rows.length : Int) := rfl
    have ow1 := o.w1
    have ow2 := o.w2
    have or1 := o.r1
    have or2 := o.r2
    have tad : ta ≠ d := ht.ts.ne sa hd
    refine ⟨_, rfl, _, G, rfl, hg, o, fun ps H1 s1 hps => ⟨ps, _, rfl, SqT.of hps, rfl, _, _, rfl, _, _, rfl, rfl, ?_⟩⟩
    have t1 := same_tf s1
    have d1 := hd.same s1
    refine ⟨_, rfl, ga, _, _, _, rfl, rfl, t1.sq sg, atI_nat (j := 1) rfl, _, rfl, ka, kv, _, _, rfl, rfl, t1.sq hka, atI_nat hkx, kp, _, _, _, rfl, rfl, t1.sq hkp, atI_nat (j := 1) rfl, _, rfl, ga, _, _, _, rfl, rfl, t1.sq sg, atI_nat (j := 1) rfl, _, rfl, ka, kv, _, _, rfl, rfl, t1.sq hka, atI_nat hkx, kp, _, _, _, rfl, rfl, t1.sq hkp, atI_nat (j := 2) rfl, _, _, rfl, ?_⟩
    refine ⟨_, rfl, _, rfl, d, G.wi, rfl, by omega, by omega, d1, fun x H2 x0 x1 f2 d2 => ⟨_, rfl, _, rfl, d, G.hi, rfl, by omega, by omega, d2, fun y H3 y0 y1 f3 d3 => ⟨_, _, rfl, ?_⟩⟩⟩
    refine ⟨_, rfl, d, 9, rfl, by decide, by decide, d3, fun way H4 w0 w1 f4 d4 => ?_⟩
    have F4 := (Frm.of_same s1).trans (f2.trans (f3.trans f4))
    have ht4 := ht.frm hd F4 tad
    obtain ⟨tv, htv, tl, hts, htd⟩ := id ht4
    refine ⟨_, rfl, ta, rfl, ⟨_, SqL.of htv⟩, fun D hD => ?_⟩
    refine lc_it (walk_list (K := K) (a := ta) (xs := tv)) (fun i H' => ∃ acc : List V, Same H4 H' ∧ H' D = some (.lst acc) ∧ acc.length ≤ i ∧ ThsAt K H4 G acc ∧ DL K H4 acc) ⟨[], new_same hD, upd_same, Nat.le_refl _, fun _ m => (List.not_mem_nil m).elim, fun _ m => (List.not_mem_nil m).elim⟩ (fun i H' _ h => by obtain ⟨_, s, _⟩ := h; exact SqL.of (s _ _ htv)) (fun i v H' Hx hi h yy => ?_) (fun H' h => ?_)
    · obtain ⟨rfl, hv⟩ := yy
      obtain ⟨acc, sm, hl, al, hth, hdl⟩ := h
      refine ⟨rfl, ?_⟩
      obtain ⟨so, hso⟩ : ∃ so, sl[i]? = some so := ⟨_, List.getElem?_eq_getElem (by rw [sa.len]; omega)⟩
      obtain ⟨v', hv1, hv2⟩ := hts i so hso
      have hv2 := hv2.at'
      rw [hv] at hv1
      injection hv1 with hv1
      subst hv1
      refine ⟨_, rfl, rfl, _, rfl, ?_⟩
      cases so with
      | none =>
        obtain rfl : v = .non := hv2
        exact iteF ⟨acc, sm, hl, by omega, hth, hdl⟩
      | some t =>
        have hv2 : TgAt K H4 v t := hv2
        obtain ⟨kd2, hkd2, _⟩ := (sa.ok t (List.mem_of_getElem? hso)).kd
        obtain ⟨tad, ow2, rfl, _⟩ := id hv2
        refine iteT ⟨_, rfl, acc, hl, Nat.lt_of_le_of_lt (show acc.length ≤ 24 by omega) (by decide), acc ++ [_], fun c o z => ?_, upd_same, by rw [List.length_append]; simp only [List.length_cons, List.length_nil]; omega, fun u m => ?_, fun u m => ?_⟩
        · rw [upd_ne (ne_of_none z hD)]
          exact sm _ _ z
        · rcases List.mem_append.mp m with m | m
          · exact hth u m
          · rw [List.mem_singleton.mp m]
            exact ⟨t, kd2, hv2, hkd2, sa.ok t (List.mem_of_getElem? hso)⟩
        · rcases List.mem_append.mp m with m | m
          · exact hdl u m
          · rw [List.mem_singleton.mp m]
            exact htd _ (List.mem_of_getElem? hv)
    obtain ⟨acc, sm, hl, al, hth, hdl⟩ := h
    have F5 := F4.trans (Frm.of_same sm)
    have d5 := d4.same sm
    have Dd : D ≠ d := d4.ne hD
    have acl : acc.length ≤ 16 := by omega
    refine seq_cut (fun σ' H'' => σ' = [some (.ref d), some (.ref ga), some (.ref ta), some (.int (n : Int)), some (.int G.wi), some (.int G.hi), some (.int kd.w), some (.int kd.h), some (.int x), some (.int y), some (.int way), some (.ref D), none, none, none, none, none, none, none] ∧ H'' = H') (fun σ' H'' hq => ?_) (fun R hR => hR _ _ ⟨rfl, rfl⟩)
    obtain ⟨rfl, rfl⟩ := hq
    refine seq_cut (fun σ' H6 => ∃ (x y : Int) (v12 v13 v14 v15 v16 v17 : Option V), σ' = [some (.ref d), some (.ref ga), some (.ref ta), some (.int (n : Int)), some (.int G.wi), some (.int G.hi), some (.int kd.w), some (.int kd.h), some (.int x), some (.int y), some (.int way), some (.ref D), v12, v13, v14, v15, v16, v17, none] ∧ -5000 ≤ x ∧ x ≤ 5000 ∧ -5000 ≤ y ∧ y ≤ 5000 ∧ Frm d H H6 ∧ Pot H6 d) (fun σ' H6 hP => ?_) (fun R hR => ?_)
    · obtain ⟨x, y, v12, v13, v14, v15, v16, v17, rfl, b1, b2, b3, b4, F6, d6⟩ := hP
      exact ⟨_, rfl, _, rfl, (show 2 ≤ sizeLine by decide), fun p np => k p x y _ (F6.trans (Frm.of_same (new_same np))) (d6.same (new_same np)) (SqT.of upd_same) ⟨b1, b2, b3, b4⟩⟩
    · refine ⟨_, rfl, _, _, rfl, rfl, _, rfl, ite2 (fun z => ?_) (fun z => ?_)⟩
      · refine ⟨_, rfl, (show 0 ≤ sizeLine by decide), fun e ne => ?_⟩
        have se := new_same (o := .lst []) ne
        refine ne_nil (se _ _ hl) upd_same (DL.tf hdl (same_tf (sm.trans se))) ⟨_, rfl, ite2 (fun z2 => ?_) (fun _ => ?_)⟩
        · have z2 : acc ≠ [] := fun e => by rw [e] at z2; cases z2
          have l1 : 1 ≤ acc.length := by
            cases acc with
            | nil => exact absurd rfl z2
            | cons _ _ => exact Nat.succ_le_succ (Nat.zero_le _)
          have dE := d5.same se
          have hlE := se _ _ hl
          refine ⟨_, rfl, _, rfl, D, _, rfl, .inl (SqL.of hlE), d, _, rfl, by omega, by omega, dE, fun ja HA a0 a1 fA dA => ?_⟩
          have hlA := fA _ _ Dd hlE
          refine ⟨_, rfl, _, rfl, D, _, rfl, .inl (SqL.of hlA), d, _, rfl, by omega, by omega, dA, fun jb HB b0 b1 fB dB => ⟨_, _, rfl, ?_⟩⟩
          have hlB := fB _ _ Dd hlA
          obtain ⟨near, hnr⟩ : ∃ near : Nat, (if jb < ja then jb else ja) = (near : Int) ∧ near < acc.length := by
            refine ⟨(if jb < ja then jb else ja).toNat, ?_, ?_⟩ <;> split <;> omega
          rw [hnr.1]
          obtain ⟨u, hu⟩ : ∃ u, acc[near]? = some u := ⟨_, List.getElem?_eq_getElem hnr.2⟩
          obtain ⟨t, kd2, ht2, hkd2, tok⟩ := hth u (List.mem_of_getElem? hu)
          obtain ⟨k2w1, k2w2, k2h1, k2h2, _⟩ := o.kw kd2 (List.mem_of_getElem? hkd2)
          have hhi := hi_le o
          have tx1 := tok.x1
          have tx2 := tok.x2
          have ty1 := tok.y1
          have ty2 := tok.y2
          obtain ⟨tad2, ow2, rfl, _⟩ := id ht2
          have tfB : TF H4 HB := (same_tf (sm.trans se)).trans ((pot_tf fA dE).trans (pot_tf fB dA))
          have FB : Frm d H HB := (F5.trans (Frm.of_same se)).trans (fA.trans fB)
          refine ⟨_, rfl, _, rfl, _, rfl, D, acc, _, _, rfl, rfl, SqL.of hlB, atI_nat hu, .ref ga, _, G, t, kd2, rfl, hg.tf (pot_tf FB hd), TgAt.tf ht2 tfB, hkd2, fun pb H6 s6 hpb => ?_⟩
          have sq6 : SqT K H6 pb (t.box kd2).vs := SqT.of hpb
          have d6 := dB.same s6
          have F6 := FB.trans (Frm.of_same s6)
          refine ⟨_, rfl, pb, _, _, _, rfl, rfl, sq6, atI_nat (j := 0) rfl, _, rfl, _, rfl, pb, _, _, _, rfl, rfl, sq6, atI_nat (j := 2) rfl, _, rfl, _, _, rfl, rfl, _, _, rfl, rfl, d, _, rfl, ?_, ?_, d6, fun c H7 c0 c1 f7 d7 => ⟨_, _, rfl, rfl, _, rfl, _, _, rfl, rfl, _, _, rfl, rfl, ?_⟩⟩
          · show 0 < kd2.w + kd.w - 1
            omega
          · show kd2.w + kd.w - 1 < 1000000000000
            omega
          have c1 : c < kd2.w + kd.w - 1 := c1
          have sq7 := (pot_tf f7 d6).sq sq6
          refine ⟨_, rfl, pb, _, _, _, rfl, rfl, sq7, atI_nat (j := 1) rfl, _, rfl, _, rfl, pb, _, _, _, rfl, rfl, sq7, atI_nat (j := 3) rfl, _, rfl, _, _, rfl, rfl, _, _, rfl, rfl, d, _, rfl, ?_, ?_, d7, fun q H8 q0 q1 f8 d8 => ⟨_, _, rfl, rfl, _, rfl, _, _, rfl, rfl, _, _, rfl, rfl, ?_⟩⟩
          · show 0 < kd2.h + kd.h - 1
            omega
          · show kd2.h + kd.h - 1 < 1000000000000
            omega
          have q1 : q < kd2.h + kd.h - 1 := q1
          have sq8 := (pot_tf f8 d7).sq sq7
          have F8 := F6.trans (f7.trans f8)
          refine ⟨_, rfl, _, rfl, pb, _, _, _, rfl, rfl, sq8, atI_nat (j := 1) rfl, _, rfl, _, _, rfl, rfl, (show 2 ≤ sizeLine by decide), fun po npo => ?_⟩
          have so := new_same (o := .tup [V.int ((t.box kd2).x + c - kd.w + 1), .int ((t.box kd2).y - kd.h)]) npo
          have sqo : SqT K (upd H8 po (.tup [V.int ((t.box kd2).x + c - kd.w + 1), .int ((t.box kd2).y - kd.h)])) po [V.int ((t.box kd2).x + c - kd.w + 1), .int ((t.box kd2).y - kd.h)] := SqT.of upd_same
          obtain ⟨H9, hH9⟩ : ∃ H9, H9 = upd H8 po (.tup [V.int ((t.box kd2).x + c - kd.w + 1), .int ((t.box kd2).y - kd.h)]) := ⟨_, rfl⟩
          show gName 16 _ _ (upd H8 po (.tup [V.int ((t.box kd2).x + c - kd.w + 1), .int ((t.box kd2).y - kd.h)])) _
          rw [← hH9] at so sqo ⊢
          have sq9 := (same_tf so).sq sq8
          have d9 := d8.same so
          refine ⟨_, rfl, _, rfl, _, rfl, _, rfl, pb, _, _, _, rfl, rfl, sq9, atI_nat (j := 0) rfl, _, rfl, pb, _, _, _, rfl, rfl, sq9, atI_nat (j := 2) rfl, _, _, rfl, rfl, _, rfl, d, 2, rfl, by decide, by decide, d9, fun e1 Ha a0 a1 fa da => ⟨_, _, rfl, rfl, _, rfl, (show 2 ≤ sizeLine by decide), fun p1 np1 => ?_⟩⟩
          have s1' := new_same (o := .tup [V.int ((t.box kd2).x + (t.box kd2).w + e1), .int ((t.box kd2).y + q - kd.h + 1)]) np1
          have r1 : SqT K (upd Ha p1 (.tup [V.int ((t.box kd2).x + (t.box kd2).w + e1), .int ((t.box kd2).y + q - kd.h + 1)])) p1 [V.int ((t.box kd2).x + (t.box kd2).w + e1), .int ((t.box kd2).y + q - kd.h + 1)] := SqT.of upd_same
          have ro := (same_tf s1').sq ((pot_tf fa d9).sq sqo)
          have sqA := (same_tf s1').sq ((pot_tf fa d9).sq sq9)
          have dA2 := da.same s1'
          have FA := (F8.trans (Frm.of_same so)).trans (fa.trans (Frm.of_same s1'))
          refine ⟨_, rfl, pb, _, _, _, rfl, rfl, sqA, atI_nat (j := 0) rfl, _, rfl, _, _, rfl, rfl, _, rfl, d, 2, rfl, by decide, by decide, dA2, fun e2 Hb b0 b1 fb db => ⟨_, _, rfl, rfl, _, rfl, (show 2 ≤ sizeLine by decide), fun p2 np2 => ?_⟩⟩
          have s2' := new_same (o := .tup [V.int ((t.box kd2).x - kd.w - e2), .int ((t.box kd2).y + q - kd.h + 1)]) np2
          have r2 : SqT K (upd Hb p2 (.tup [V.int ((t.box kd2).x - kd.w - e2), .int ((t.box kd2).y + q - kd.h + 1)])) p2 [V.int ((t.box kd2).x - kd.w - e2), .int ((t.box kd2).y + q - kd.h + 1)] := SqT.of upd_same
          have tfb := (pot_tf fb dA2).trans (same_tf s2')
          have sqB := tfb.sq sqA
          refine ⟨_, rfl, _, rfl, pb, _, _, _, rfl, rfl, sqB, atI_nat (j := 1) rfl, _, rfl, pb, _, _, _, rfl, rfl, sqB, atI_nat (j := 3) rfl, _, _, rfl, rfl, (show 2 ≤ sizeLine by decide), fun p3 np3 => ⟨(show 6 ≤ sizeLine by decide), fun pl npl => ?_⟩⟩
          have s3' := new_same (o := .tup [V.int ((t.box kd2).x + c - kd.w + 1), .int ((t.box kd2).y + (t.box kd2).h)]) np3
          have s4' := new_same (o := .lst [V.ref po, .ref po, .ref po, .ref p1, .ref p2, .ref p3]) npl
          have FZ := (FA.trans (fb.trans (Frm.of_same s2'))).trans (Frm.of_same (s3'.trans s4'))
          have dZ := (db.same s2').same (s3'.trans s4')
          have tfz := same_tf (s3'.trans s4')
          have zo := tfz.sq (tfb.sq ro)
          have z1 := tfz.sq (tfb.sq r1)
          have z2' := tfz.sq r2
          have z3 := (same_tf s4').sq (SqT.of (K := K) (upd_same (H := upd Hb p2 (.tup [V.int ((t.box kd2).x - kd.w - e2), .int ((t.box kd2).y + q - kd.h + 1)])) (a := p3) (o := .tup [V.int ((t.box kd2).x + c - kd.w + 1), .int ((t.box kd2).y + (t.box kd2).h)])))
          have bxx : (t.box kd2).x = t.x := rfl
          have bxy : (t.box kd2).y = t.y := rfl
          have bxw : (t.box kd2).w = kd2.w := rfl
          have bxh : (t.box kd2).h = kd2.h := rfl
          have w6 : way < 6 := of_decide_eq_true z
          obtain ⟨pv, X, Y, hat, hsq, hbd⟩ := pick6 zo z1 z2' z3 (by unfold Bd; omega) (by unfold Bd; omega) (by unfold Bd; omega) (by unfold Bd; omega) w0 w6
          refine ⟨_, rfl, pl, _, _, .ref pv, rfl, rfl, SqL.of upd_same, hat, pv, _, rfl, hsq, rfl, _, _, rfl, _, _, rfl, rfl, ?_⟩
          obtain ⟨g1, g2, g3, g4⟩ := hbd
          exact hR _ _ ⟨X, Y, _, _, _, _, _, _, rfl, g1, g2, g3, g4, FZ, dZ⟩
        · have hgE : GmAt K (upd H'' e (.lst [])) (.ref ga) G := hg.tf (same_tf (Same.refl H) |>.trans (pot_tf (F5.trans (Frm.of_same se)) hd))
          refine ⟨_, rfl, _, _, rfl, rfl, _, rfl, ite2 (fun z2 => ?_) (fun _ => iteF (hR _ _ ⟨x, y, _, _, _, _, _, _, rfl, by omega, by omega, by omega, by omega, F5.trans (Frm.of_same se), d5.same se⟩))⟩
          refine ⟨_, rfl, _, rfl, _, rfl, _, rfl, _, rfl, (show 4 ≤ sizeLine by decide), fun pb npb => ?_⟩
          have sb := new_same (o := .tup [V.int x, .int y, .int kd.w, .int kd.h]) npb
          have limY : ∀ q : Int, 0 ≤ q → q ≤ 400 → (Bx.mk x q kd.w kd.h).lim := fun q q0 q1 => lim_box (by show -5000 ≤ x; omega) (by show x ≤ 5000; omega) (by show -5000 ≤ q; omega) (by show q ≤ 5000; omega) kw1 (by show kd.w ≤ 20; omega) kh1 (by show kd.h ≤ 20; omega)
          refine ⟨_, .ref pb, G, ⟨x, y, kd.w, kd.h⟩, rfl, hgE.tf (same_tf sb), o, ⟨pb, rfl, SqT.of upd_same⟩, limY y y0 (by omega), fun H7 s7 => ?_⟩
          have SA := (se).trans (sb.trans s7)
          cases hfr : G.fr ⟨x, y, kd.w, kd.h⟩ with
          | false => exact ⟨_, rfl, iteF (hR _ _ ⟨x, y, _, _, _, _, _, _, rfl, by omega, by omega, by omega, by omega, F5.trans (Frm.of_same SA), d5.same SA⟩)⟩
          | true =>
            refine ⟨_, rfl, iteT ⟨_, rfl, _, _, rfl, rfl, _, rfl, _, _, rfl, rfl, _, rfl, by omega, by omega, ?_⟩⟩
            refine L2.for_it (walk_r0 (n := (G.hi - 1 - y).toNat)) (fun i σ H8 => ∃ v17 : Option V, σ = [some (.ref d), some (.ref ga), some (.ref ta), some (.int (n : Int)), some (.int G.wi), some (.int G.hi), some (.int kd.w), some (.int kd.h), some (.int x), some (.int (y + (i : Int))), some (.int way), some (.ref D), none, none, none, none, none, v17, none] ∧ Same H'' H8) ⟨_, by rw [show y + ((0 : Nat) : Int) = y by omega], SA⟩ (fun _ _ _ _ _ => trivial) (fun i x0 σ H8 Hx hi hPv hy => ?_) (fun σ H8 hPv => ?_)
            · obtain ⟨v17, rfl, S8⟩ := hPv
              obtain ⟨rfl, rfl⟩ := hy
              have F8 := F5.trans (Frm.of_same S8)
              refine ⟨_, rfl, _, rfl, _, rfl, _, rfl, _, rfl, (show 4 ≤ sizeLine by decide), fun pc npc => ?_⟩
              have scc := new_same (o := .tup [V.int x, .int (y + (i : Int)), .int kd.w, .int kd.h]) npc
              refine ⟨_, .ref pc, G, ⟨x, y + (i : Int), kd.w, kd.h⟩, 0, 1, rfl, hg.tf (pot_tf (F8.trans (Frm.of_same scc)) hd), o, ⟨pc, rfl, SqT.of upd_same⟩, limY _ (by omega) (by omega), ?_, ?_, fun H9 s9 => ?_⟩
              · have e : (Bx.mk x (y + (i : Int)) kd.w kd.h).mv 0 1 = ⟨x, y + (i : Int) + 1, kd.w, kd.h⟩ := by
                  unfold Bx.mv
                  rw [Int.add_zero]
                rw [e]
                exact limY _ (by omega) (by omega)
              · show y + (i : Int) + kd.h ≤ 100000
                omega
              · have S9 := S8.trans (scc.trans s9)
                cases hst : G.stp ⟨x, y + (i : Int), kd.w, kd.h⟩ 0 1 with
                | true => exact ⟨_, rfl, iteT (hR _ _ ⟨x, _, _, _, _, _, _, _, rfl, by omega, by omega, by omega, by omega, F5.trans (Frm.of_same S9), d5.same S9⟩)⟩
                | false =>
                  refine ⟨_, rfl, iteF ⟨_, rfl, _, _, rfl, rfl, some (.int (i : Int)), ?_, S9⟩⟩
                  rw [show y + ((i + 1 : Nat) : Int) = y + (i : Int) + 1 by omega]
                  rfl
            · obtain ⟨v17, rfl, S8⟩ := hPv
              exact hR _ _ ⟨x, _, _, _, _, _, _, _, rfl, by omega, by omega, by omega, by omega, F5.trans (Frm.of_same S8), d5.same S8⟩
      · refine iteF ?_
        have hgE : GmAt K H'' (.ref ga) G := hg.tf (same_tf (Same.refl H) |>.trans (pot_tf (F5.trans (Frm.of_same (Same.refl H''))) hd))
        refine ⟨_, rfl, _, _, rfl, rfl, _, rfl, ite2 (fun z2 => ?_) (fun _ => iteF (hR _ _ ⟨x, y, _, _, _, _, _, _, rfl, by omega, by omega, by omega, by omega, F5.trans (Frm.of_same (Same.refl H'')), d5.same (Same.refl H'')⟩))⟩
        refine ⟨_, rfl, _, rfl, _, rfl, _, rfl, _, rfl, (show 4 ≤ sizeLine by decide), fun pb npb => ?_⟩
        have sb := new_same (o := .tup [V.int x, .int y, .int kd.w, .int kd.h]) npb
        have limY : ∀ q : Int, 0 ≤ q → q ≤ 400 → (Bx.mk x q kd.w kd.h).lim := fun q q0 q1 => lim_box (by show -5000 ≤ x; omega) (by show x ≤ 5000; omega) (by show -5000 ≤ q; omega) (by show q ≤ 5000; omega) kw1 (by show kd.w ≤ 20; omega) kh1 (by show kd.h ≤ 20; omega)
        refine ⟨_, .ref pb, G, ⟨x, y, kd.w, kd.h⟩, rfl, hgE.tf (same_tf sb), o, ⟨pb, rfl, SqT.of upd_same⟩, limY y y0 (by omega), fun H7 s7 => ?_⟩
        have SA := ((Same.refl H'')).trans (sb.trans s7)
        cases hfr : G.fr ⟨x, y, kd.w, kd.h⟩ with
        | false => exact ⟨_, rfl, iteF (hR _ _ ⟨x, y, _, _, _, _, _, _, rfl, by omega, by omega, by omega, by omega, F5.trans (Frm.of_same SA), d5.same SA⟩)⟩
        | true =>
          refine ⟨_, rfl, iteT ⟨_, rfl, _, _, rfl, rfl, _, rfl, _, _, rfl, rfl, _, rfl, by omega, by omega, ?_⟩⟩
          refine L2.for_it (walk_r0 (n := (G.hi - 1 - y).toNat)) (fun i σ H8 => ∃ v17 : Option V, σ = [some (.ref d), some (.ref ga), some (.ref ta), some (.int (n : Int)), some (.int G.wi), some (.int G.hi), some (.int kd.w), some (.int kd.h), some (.int x), some (.int (y + (i : Int))), some (.int way), some (.ref D), none, none, none, none, none, v17, none] ∧ Same H'' H8) ⟨_, by rw [show y + ((0 : Nat) : Int) = y by omega], SA⟩ (fun _ _ _ _ _ => trivial) (fun i x0 σ H8 Hx hi hPv hy => ?_) (fun σ H8 hPv => ?_)
          · obtain ⟨v17, rfl, S8⟩ := hPv
            obtain ⟨rfl, rfl⟩ := hy
            have F8 := F5.trans (Frm.of_same S8)
            refine ⟨_, rfl, _, rfl, _, rfl, _, rfl, _, rfl, (show 4 ≤ sizeLine by decide), fun pc npc => ?_⟩
            have scc := new_same (o := .tup [V.int x, .int (y + (i : Int)), .int kd.w, .int kd.h]) npc
            refine ⟨_, .ref pc, G, ⟨x, y + (i : Int), kd.w, kd.h⟩, 0, 1, rfl, hg.tf (pot_tf (F8.trans (Frm.of_same scc)) hd), o, ⟨pc, rfl, SqT.of upd_same⟩, limY _ (by omega) (by omega), ?_, ?_, fun H9 s9 => ?_⟩
            · have e : (Bx.mk x (y + (i : Int)) kd.w kd.h).mv 0 1 = ⟨x, y + (i : Int) + 1, kd.w, kd.h⟩ := by
                unfold Bx.mv
                rw [Int.add_zero]
              rw [e]
              exact limY _ (by omega) (by omega)
            · show y + (i : Int) + kd.h ≤ 100000
              omega
            · have S9 := S8.trans (scc.trans s9)
              cases hst : G.stp ⟨x, y + (i : Int), kd.w, kd.h⟩ 0 1 with
              | true => exact ⟨_, rfl, iteT (hR _ _ ⟨x, _, _, _, _, _, _, _, rfl, by omega, by omega, by omega, by omega, F5.trans (Frm.of_same S9), d5.same S9⟩)⟩
              | false =>
                refine ⟨_, rfl, iteF ⟨_, rfl, _, _, rfl, rfl, some (.int (i : Int)), ?_, S9⟩⟩
                rw [show y + ((i + 1 : Nat) : Int) = y + (i : Int) + 1 by omega]
                rfl
          · obtain ⟨v17, rfl, S8⟩ := hPv
            exact hR _ _ ⟨x, _, _, _, _, _, _, _, rfl, by omega, by omega, by omega, by omega, F5.trans (Frm.of_same S8), d5.same S8⟩
end
end K22
set_option maxRecDepth 100000
set_option maxHeartbeats 4000000
/-! Things, drawn. -/
namespace K22
open PySem PySem.Spec PyProof.Rows L2 KF KD KP
theorem ixN_nat {n s : Nat} (h : s < n) : ixN n (s : Int) = some s := by
  have h1 : (s : Int) < (n : Int) := by omega
  simp [ixN, h1]
theorem TsD.put {K : PySem.W.Frag} {H : Hp} {ta : Addr} {tv : List V} {sl : List (Option Tg)} {s : Nat} {v : V} {t : Tg} (h1 : H ta = some (.lst tv)) (h2 : tv.length = 16) (h3 : ∀ (i : Nat) (o : Option Tg), sl[i]? = some o → ∃ v : V, tv[i]? = some v ∧ SlX K H v o) (h4 : DL K H tv) (hs : s < 16) (hl : sl.length = 16) (ht : TgX K H v t) : TsD K (upd H ta (.lst (tv.set s v))) ta (sl.set s (some t)) := by
  have tf := TF.lst1 (o := .lst (tv.set s v)) h1
  refine ⟨_, upd_same, by rw [List.length_set]; exact h2, fun i o z => ?_, fun u m => ?_⟩
  · by_cases e : i = s
    · subst e
      rw [List.getElem?_set_self (by omega)] at z
      injection z with z
      subst z
      exact ⟨v, by rw [List.getElem?_set_self (by omega)], TgX.tf ht tf⟩
    · rw [List.getElem?_set_ne (Ne.symm e)] at z ⊢
      obtain ⟨u, g1, g2⟩ := h3 i o z
      exact ⟨u, g1, g2.tf tf⟩
  · rcases List.mem_or_eq_of_mem_set m with m | rfl
    · exact DL.tf h4 tf u m
    · obtain ⟨d, g1, g2⟩ := ht.al
      exact ⟨d, dp_nl tf _ _ (alok_nl _ _ g2) g1, g2⟩
theorem SlAll.put {G : Gm} {sl : List (Option Tg)} {s : Nat} {t : Tg} (h : SlAll G sl) (ht : TgOk G t) : SlAll G (sl.set s (some t)) := ⟨by rw [List.length_set]; exact h.len, fun u m => by
  rcases List.mem_or_eq_of_mem_set m with m | e
  · exact h.ok u m
  · injection e with e
    rw [e]
    exact ht⟩
section
variable {P : Program} {w : World} {K : PySem.W.Frag} {mg : Str → Option Value} {base : Heap}
def spThg (K : PySem.W.Frag) : Sp := fun vs H Q _ => ∃ (d : Addr) (g : V) (G : Gm) (m : Int), vs = [.ref d, g, .int m] ∧ 0 ≤ m ∧ m ≤ 100 ∧ Pot H d ∧ GmAt K H g G ∧ G.ok ∧ 1 ≤ G.kds.length ∧ ∀ (ta : Addr) (sl : List (Option Tg)) H', Frm d H H' → Pot H' d → TsD K H' ta sl → SlAll G sl → H ta = none → Q (.ref ta) H'
theorem scTh : FnScope ["pot", "game", "many", "things", "turn", "slot", "kind", "x", "y", "dx", "dy", "own", "i"] ["pot", "game", "many"] (defScope s_law_things) := ⟨rfl, rfl, rfl, by decide +kernel, rfl, by decide +kernel, by decide +kernel⟩
theorem ok_law_things (T : Txt K w mg) : FnOk P w K mg base CX0 7 (He.fAd K ("_law_things", none)) (fdAt K (He.fAd K ("_law_things", none))) ["pot", "game", "many"] (spThg K) := by
  refine T.F_law_things.ok scTh (fun vs H Q E h => ?_) (fun cdv A outer s H vs Q E hr h => ?_)
  · obtain ⟨d, g, G, m, rfl, _⟩ := h
    rfl
  · obtain ⟨d, g, G, m, rfl, m0, m1, hd, hg, o, k1, k⟩ := h
    refine ⟨_, PSs.nox (pss_cons (ps_set (i := 3) scTh.nd rfl (Or.inl rfl) (pe_op op_rep (pe_lst (pa_cons pe_non pa_nil)) pe_int))
      (pss_cons (ps_for PassesOwn.never rfl (pi_range1 (by rfl) T.n_range (pa_cons (pv 2) pa_nil)) (pg_name (i := 4) scTh.nd rfl (Or.inl rfl)) (pss_cons (ps_set (i := 5) scTh.nd rfl (Or.inl rfl) (pe_call (ok_law_take T) (hr.mono (by first | decide | omega)) (by rfl) T.g_law_take (T.F_law_take).kp T.b_law_take .nil pass0 (pa_cons (pv 0) (pa_cons pe_int pa_nil))))
      (pss_cons (ps_set (i := 6) scTh.nd rfl (Or.inl rfl) (pe_call (ok_law_take T) (hr.mono (by first | decide | omega)) (by rfl) T.g_law_take (T.F_law_take).kp T.b_law_take .nil pass0 (pa_cons (pv 0) (pa_cons (pe_callB (r := Evl.rLenS K) call_len_seq (by rfl) T.n_len PyProof.Rows.Boot.«len» (pa_cons (pe_ix (r := rIxT K) ix_tup (pv 1) pe_int (fun _ _ => rfl)) pa_nil)) pa_nil))))
      (pss_cons (ps_asg (pe_call (ok_law_spot T) (hr.mono (by first | decide | omega)) (by rfl) T.g_law_spot (T.F_law_spot).kp T.b_law_spot .nil pass0 (pa_cons (pv 0) (pa_cons (pv 1) (pa_cons (pv 3) (pa_cons (pv 6) pa_nil))))) (pg_tup (by rfl) (pgs_cons (pg_name (i := 7) scTh.nd rfl (Or.inl rfl)) (pgs_cons (pg_name (i := 8) scTh.nd rfl (Or.inl rfl)) pgs_nil))))
      (pss_one (ps_if (PW.pt (pw_and (pt_cmpR op_isN (pe_ix (r := rIxL K) ix_list (pv 3) (pv 5) (fun _ _ => rfl)) pe_non (nomark _)) (pw_and1 (pt_val (pe_call (ok_law_fits T) (hr.mono (by first | decide | omega)) (by rfl) T.g_law_fits (T.F_law_fits).kp T.b_law_fits .nil pass0 (pa_cons (pv 1) (pa_cons (pv 3) (pa_cons (pv 6) (pa_cons (pv 7) (pa_cons (pv 8) pa_nil)))))))))) (pss_cons (ps_par (i := 9) (j := 10) (by rfl) scTh.nd rfl rfl (by decide) rfl rfl (pa_cons (pe_op op_sub (pe_call (ok_law_take T) (hr.mono (by first | decide | omega)) (by rfl) T.g_law_take (T.F_law_take).kp T.b_law_take .nil pass0 (pa_cons (pv 0) (pa_cons pe_int pa_nil))) pe_int) (pa_cons (pe_op op_sub (pe_call (ok_law_take T) (hr.mono (by first | decide | omega)) (by rfl) T.g_law_take (T.F_law_take).kp T.b_law_take .nil pass0 (pa_cons (pv 0) (pa_cons pe_int pa_nil))) pe_int) pa_nil)) (by rfl))
      (pss_cons (ps_set (i := 11) scTh.nd rfl (Or.inl rfl) (pe_callTy call_tuple_of (by rfl) T.n_tuple PyProof.Rows.Boot.«tuple» (pa_cons (pe_lc (own := [("i", 12)]) (g := gName 12) (tt := tYes) (by rfl) scTh.nd (pi_range1 (by rfl) T.n_range (pa_cons pe_int pa_nil)) (blkOk_by (own := [("i", 12)]) (N := ["pot", "game", "many", "things", "turn", "slot", "kind", "x", "y", "dx", "dy", "own", "i"]) (sc := defScope s_law_things) (by decide +kernel)) (fun _ _ _ _ _ => pg_name (i := 12) scTh.nd rfl (Or.inl rfl)) (fun _ _ _ _ _ => pts_nil) (fun _ _ _ _ _ => (pe_op op_sub (pe_call (ok_law_take T) (hr.mono (by first | decide | omega)) (by rfl) T.g_law_take (T.F_law_take).kp T.b_law_take .nil pass0 (pa_cons (pv 0) (pa_cons pe_int pa_nil))) pe_int))) pa_nil)))
      (pss_one (ps_asg (pe_tup (pa_cons (pv 6) (pa_cons (pe_op op_sub (pe_call (ok_law_take T) (hr.mono (by first | decide | omega)) (by rfl) T.g_law_take (T.F_law_take).kp T.b_law_take .nil pass0 (pa_cons (pv 0) (pa_cons (pe_op op_add (pe_ix (r := rIxT K) ix_tup (pe_ix (r := rIxT K) ix_tup (pv 1) pe_int (fun _ _ => rfl)) pe_int (fun _ _ => rfl)) pe_int) pa_nil))) pe_int) (pa_cons (pv 7) (pa_cons (pv 8) (pa_cons (pv 9) (pa_cons (pv 10) (pa_cons (pe_un un_neg pe_int) (pa_cons (pv 11) pa_nil))))))))) (pg_sub (pv 3) (pv 5) set_list))))) pss_nil))))))
      (pss_one (ps_ret (pv 3))))), ?_⟩
    obtain ⟨ga, lv, ksv, rfl, sg, hlv, hks⟩ := id hg
    obtain ⟨ka, kv, rfl, hka, kl, hke⟩ := id hks
    refine ⟨(show 1 ≤ sizeLine by decide), fun p0 np0 => ⟨p0, 16, [.non], rfl, rfl, upd_same, by decide, by decide, (show 1 * 16 ≤ sizeLine by decide), fun ta nta => ?_⟩⟩
    have s0 := new_same (o := .lst [V.non]) np0
    have s1 := new_same (o := .lst (List.replicate (16 : Int).toNat [V.non]).flatten) nta
    have S1 := s0.trans s1
    have tad : ta ≠ d := (hd.same s0).ne nta
    have ntaH : H ta = none := by
      cases e : H ta with
      | none => rfl
      | some z => exact absurd ((s0 _ _ e).symm.trans nta) (by simp)
    refine ⟨_, rfl, m, rfl, by omega, by omega, ?_⟩
    refine L2.for_it (walk_r0 (n := m.toNat)) (fun i σ H' => ∃ (sl : List (Option Tg)) (v4 v5 v6 v7 v8 v9 v10 v11 : Option V), σ = [some (.ref d), some (.ref ga), some (.int m), some (.ref ta), v4, v5, v6, v7, v8, v9, v10, v11, none] ∧ Frm d H H' ∧ Pot H' d ∧ TsD K H' ta sl ∧ SlAll G sl) ⟨List.replicate 16 none, _, _, _, _, _, _, _, _, rfl, Frm.of_same S1, hd.same S1, ⟨_, upd_same, by decide, fun i o z => ?_, fun u m => ?_⟩, ⟨by simp, fun t m => ?_⟩⟩ (fun _ _ _ _ _ => trivial) (fun i x σ H4 Hx hi hPv hy => ?_) (fun σ H4 hPv => ?_)
    · have e := List.eq_of_mem_replicate (List.mem_of_getElem? z)
      have hi := (List.getElem?_eq_some_iff.mp z).1
      rw [List.length_replicate] at hi
      subst e
      refine ⟨.non, ?_, rfl⟩
      show (List.replicate 16 V.non)[i]? = some V.non
      rw [List.getElem?_replicate, if_pos hi]
    · have m : u ∈ List.replicate 16 V.non := m
      rw [List.eq_of_mem_replicate m]
      exact ⟨.none, .non, trivial⟩
    · exact absurd (List.eq_of_mem_replicate m) (by simp)
    · obtain ⟨sl, v4, v5, v6, v7, v8, v9, v10, v11, rfl, F, dp, hts, sa⟩ := hPv
      obtain ⟨rfl, rfl⟩ := hy
      have tfx := pot_tf F hd
      have kl8 := o.kl
      refine ⟨_, rfl, d, 16, rfl, by decide, by decide, dp, fun s1' H5 a0 a1 f5 d5 => ?_⟩
      obtain ⟨s, rfl⟩ := Int.eq_ofNat_of_zero_le a0
      have tf5 := tfx.trans (pot_tf f5 dp)
      have kvl : kv.length ≤ 8 := by omega
      refine ⟨_, rfl, _, rfl, ga, _, _, _, rfl, rfl, tf5.sq sg, atI_nat (j := 1) rfl, ka, _, rfl, .inr (tf5.sq hka), d, _, rfl, by omega, by omega, d5, fun n1 H6 b0 b1 f6 d6 => ?_⟩
      obtain ⟨n, rfl⟩ := Int.eq_ofNat_of_zero_le b0
      have F6 := F.trans (f5.trans f6)
      have hts6 := hts.frm dp (f5.trans f6) tad
      have hg6 := hg.tf (pot_tf F6 hd)
      refine ⟨_, rfl, _, rfl, _, rfl, _, rfl, d, ta, _, G, sl, n, rfl, d6, hg6, o, sa, hts6, by omega, fun px x y H7 f7 d7 hpx hb => ⟨px, _, rfl, hpx, rfl, _, _, rfl, _, _, rfl, rfl, ?_⟩⟩
      have F7 := F6.trans f7
      have hts7 := hts6.frm d6 f7 tad
      have hg7 := hg.tf (pot_tf F7 hd)
      obtain ⟨tv, htv, tvl, htvs, htvd⟩ := id hts7
      obtain ⟨so, hso⟩ : ∃ so, sl[s]? = some so := ⟨_, List.getElem?_eq_getElem (by rw [sa.len]; omega)⟩
      obtain ⟨v, hv1, hv2⟩ := htvs s so hso
      have hv2 := hv2.at'
      refine ⟨_, rfl, _, rfl, ta, _, _, _, rfl, rfl, SqL.of htv, atI_nat hv1, rfl, _, rfl, ite2 (fun z => ?_) (fun z => iteF ⟨sl, _, _, _, _, _, _, _, _, rfl, F7, d7, hts7, sa⟩)⟩
      refine ⟨_, rfl, _, rfl, _, rfl, _, rfl, _, rfl, _, ta, G, sl, n, x, y, rfl, hg7, o, sa, hts7.ts, by omega, hb.1, hb.2.1, hb.2.2.1, hb.2.2.2, fun bf H8 s8 hbf => ⟨bf, rfl, ?_⟩⟩
      have F8 := F7.trans (Frm.of_same s8)
      have d8 := d7.same s8
      have hts8 := hts7.same s8
      cases bf with
      | false => exact iteF ⟨sl, _, _, _, _, _, _, _, _, rfl, F8, d8, hts8, sa⟩
      | true =>
        obtain ⟨e1, e2, e3, e4⟩ := hbf rfl
        refine iteT ?_
        refine ⟨_, rfl, d, 15, rfl, by decide, by decide, d8, fun dx H9 _ _ f9 d9 => ⟨_, _, rfl, rfl, _, rfl, d, 15, rfl, by decide, by decide, d9, fun dy H10 _ _ f10 d10 => ⟨_, _, rfl, rfl, _, _, rfl, ?_⟩⟩⟩
        have F10 := F8.trans (f9.trans f10)
        have hts10 := hts8.frm d8 (f9.trans f10) tad
        refine ⟨_, rfl, by decide, by decide, fun D2 hD2 => ?_⟩
        have D2d := d10.ne hD2
        refine lc_it (walk_r0 (n := 4)) (fun i H5 => ∃ us : List Int, Frm d H10 H5 ∧ Pot H5 d ∧ H5 D2 = some (.lst (us.map V.int)) ∧ us.length = i) ⟨[], frm_new (Frm.refl _ _) hD2, d10.upd D2d, upd_same, rfl⟩ (fun _ _ _ _ => trivial) (fun i v H5 Hz hi h yy => ?_) (fun H5 h => ?_)
        · obtain ⟨rfl, rfl⟩ := yy
          obtain ⟨us, f5, d5, hl5, hlen5⟩ := h
          refine ⟨rfl, ?_⟩
          dsimp only [tYes]
          rw [if_pos rfl]
          exact ⟨_, rfl, d, 1999, rfl, by decide, by decide, d5, fun y H6 _ _ f6 d6 => ⟨_, _, rfl, rfl, us.map V.int, f6 _ _ D2d hl5, Nat.lt_of_le_of_lt (show (us.map V.int).length ≤ 24 by rw [List.length_map]; omega) (by decide), us ++ [y - 999], frm_new (f5.trans f6) hD2, d6.upd D2d, by rw [upd_same, List.map_append]; rfl, by simp [hlen5]⟩⟩
        obtain ⟨us, f11, d11, hl11, hlen11⟩ := h
        refine ⟨D2, _, rfl, .inl ⟨SqL.of hl11, fun ow now => ?_⟩⟩
        have s12 := new_same (o := .tup (us.map V.int)) now
        have hts12 := (hts10.frm d10 f11 tad).same s12
        have d12 := d11.same s12
        have F12 := (F10.trans f11).trans (Frm.of_same s12)
        have how : SqT K (upd H5 ow (.tup (us.map V.int))) ow (us.map V.int) := SqT.of upd_same
        obtain ⟨ga', lv', ksv', eg, sg', hlv', _⟩ := hg.tf (pot_tf F12 hd)
        injection eg with eg
        subst eg
        obtain ⟨la, rs, st, pu, rfl, hla, hrs⟩ := id hlv'
        have ho1 := o.h1
        have ho2 := o.h2
        refine ⟨_, rfl, _, rfl, _, rfl, ga, _, _, _, rfl, rfl, sg', atI_nat (j := 0) rfl, la, _, _, _, rfl, rfl, hla, atI_nat (j := 2) rfl, _, _, rfl, rfl, d, _, rfl, ?_, ?_, d12, fun hs H13 _ _ f13 d13 => ⟨_, _, rfl, rfl, _, rfl, _, rfl, _, rfl, _, rfl, _, rfl, _, rfl, (show 8 ≤ sizeLine by decide), fun pn npn => ?_⟩⟩
        · show 0 < G.ho + 1
          omega
        · show G.ho + 1 < 1000000000000
          omega
        have s14 := new_same (o := .tup [V.int (n : Int), .int (hs - 1), .int x, .int y, .int (dx - 7), .int (dy - 7), .int (-2), .ref ow]) npn
        have hts14 := (hts12.frm d12 f13 tad).same s14
        have d14 := d13.same s14
        have how14 := (same_tf s14).sq ((pot_tf f13 d12).sq how)
        obtain ⟨tvZ, hZ1, hZ2, hZ3, hZ4⟩ := hts14
        have F14 := (F12.trans f13).trans (Frm.of_same s14)
        refine ⟨_, rfl, _, rfl, ta, tvZ, (s : Int), s, rfl, rfl, hZ1, ixN_nat (by omega), ?_⟩
        refine ⟨sl.set s (some ⟨n, hs - 1, x, y, dx - 7, dy - 7, -2, us⟩), _, _, _, _, _, _, _, _, rfl, frm_new F14 ntaH, d14.upd tad, TsD.put hZ1 hZ2 hZ3 hZ4 (by omega) sa.len ⟨pn, ow, rfl, SqT.of upd_same, how14, by show us.length ≤ 1000; omega⟩, sa.put ⟨by show n < G.kds.length; omega, by show -1000 ≤ x; omega, by show x ≤ 1000; omega, by show -1000 ≤ y; omega, e4⟩⟩
    · obtain ⟨sl, v4, v5, v6, v7, v8, v9, v10, v11, rfl, F, dp, hts, sa⟩ := hPv
      exact ⟨_, rfl, k ta sl H4 F dp hts sa ntaH⟩
end
end K22
set_option maxRecDepth 100000
set_option maxHeartbeats 4000000
/-! The start, drawn. -/
namespace K22
open PySem PySem.Spec PyProof.Rows L2 KF KD KP
/-- w, with its data -/
def WsD (K : PySem.W.Frag) (H : Hp) (wa : Addr) (sl : List (Option Tg)) : Prop := ∃ wv : List V, H wa = some (.lst wv) ∧ wv.length = 49 ∧ (∀ (i : Nat) (o : Option Tg), sl[i]? = some o → ∃ v : V, wv[i]? = some v ∧ SlX K H v o) ∧ DL K H wv
theorem WsD.wl {K : PySem.W.Frag} {H : Hp} {ta : Addr} {sl : List (Option Tg)} (h : WsD K H ta sl) : WlAt K H ta sl := by
  obtain ⟨tv, h1, h2, h3, _⟩ := h
  exact ⟨tv, h1, h2, fun i o z => by obtain ⟨v, g1, g2⟩ := h3 i o z; exact ⟨v, g1, g2.at'⟩⟩
theorem WsD.wd {K : PySem.W.Frag} {H : Hp} {ta : Addr} {sl : List (Option Tg)} (h : WsD K H ta sl) : ∃ wd, WlD K H ta sl wd := by
  obtain ⟨tv, h1, h2, h3, h4⟩ := h
  obtain ⟨ds, g1, g2, _⟩ := h4.all
  exact ⟨ds, tv, h1, h2, fun i o z => by obtain ⟨v, g1, g2⟩ := h3 i o z; exact ⟨v, g1, g2.at'⟩, g1, g2⟩
theorem WsD.tf {K : PySem.W.Frag} {H H' : Hp} {ta : Addr} {sl : List (Option Tg)} (h : WsD K H ta sl) (e : TF H H') (f : H' ta = H ta) : WsD K H' ta sl := by
  obtain ⟨tv, h1, h2, h3, h4⟩ := h
  exact ⟨tv, by rw [f]; exact h1, h2, fun i o z => by obtain ⟨v, g1, g2⟩ := h3 i o z; exact ⟨v, g1, g2.tf e⟩, h4.tf e⟩
theorem WsD.same {K : PySem.W.Frag} {H H' : Hp} {ta : Addr} {sl : List (Option Tg)} (h : WsD K H ta sl) (e : Same H H') : WsD K H' ta sl := by
  obtain ⟨tv, h1, _⟩ := id h
  exact h.tf (same_tf e) (by rw [h1]; exact e _ _ h1)
theorem WsD.frm {K : PySem.W.Frag} {H H' : Hp} {ta d : Addr} {sl : List (Option Tg)} (h : WsD K H ta sl) (hd : Pot H d) (f : Frm d H H') (n : ta ≠ d) : WsD K H' ta sl := by
  obtain ⟨tv, h1, _⟩ := id h
  exact h.tf (pot_tf f hd) (by rw [h1]; exact f _ _ n h1)
theorem WsD.put {K : PySem.W.Frag} {H : Hp} {ta : Addr} {tv : List V} {sl : List (Option Tg)} {s : Nat} {v : V} {t : Tg} (h1 : H ta = some (.lst tv)) (h2 : tv.length = 49) (h3 : ∀ (i : Nat) (o : Option Tg), sl[i]? = some o → ∃ v : V, tv[i]? = some v ∧ SlX K H v o) (h4 : DL K H tv) (hs : s < 16) (hl : sl.length = 16) (ht : TgX K H v t) : WsD K (upd H ta (.lst (tv.set s v))) ta (sl.set s (some t)) := by
  have tf := TF.lst1 (o := .lst (tv.set s v)) h1
  refine ⟨_, upd_same, by rw [List.length_set]; exact h2, fun i o z => ?_, fun u m => ?_⟩
  · by_cases e : i = s
    · subst e
      rw [List.getElem?_set_self (by omega)] at z
      injection z with z
      subst z
      exact ⟨v, by rw [List.getElem?_set_self (by omega)], TgX.tf ht tf⟩
    · rw [List.getElem?_set_ne (Ne.symm e)] at z ⊢
      obtain ⟨u, g1, g2⟩ := h3 i o z
      exact ⟨u, g1, g2.tf tf⟩
  · rcases List.mem_or_eq_of_mem_set m with m | rfl
    · exact DL.tf h4 tf u m
    · obtain ⟨d, g1, g2⟩ := ht.al
      exact ⟨d, dp_nl tf _ _ (alok_nl _ _ g2) g1, g2⟩
theorem WsD.put2 {K : PySem.W.Frag} {H : Hp} {ta : Addr} {tv : List V} {sl : List (Option Tg)} {s : Nat} {v : V} (h1 : H ta = some (.lst tv)) (h2 : tv.length = 49) (h3 : ∀ (i : Nat) (o : Option Tg), sl[i]? = some o → ∃ v : V, tv[i]? = some v ∧ SlX K H v o) (h4 : DL K H tv) (hs : 16 ≤ s) (hl : sl.length = 16) (ht : ∃ d, Dp K H v d ∧ AlOk 2 d) : WsD K (upd H ta (.lst (tv.set s v))) ta sl := by
  have tf := TF.lst1 (o := .lst (tv.set s v)) h1
  refine ⟨_, upd_same, by rw [List.length_set]; exact h2, fun i o z => ?_, fun u m => ?_⟩
  · have hi := (List.getElem?_eq_some_iff.mp z).1
    rw [List.getElem?_set_ne (by omega)]
    obtain ⟨u, g1, g2⟩ := h3 i o z
    exact ⟨u, g1, g2.tf tf⟩
  · rcases List.mem_or_eq_of_mem_set m with m | rfl
    · exact DL.tf h4 tf u m
    · obtain ⟨d, g1, g2⟩ := ht
      exact ⟨d, dp_nl tf _ _ (alok_nl _ _ g2) g1, g2⟩
theorem int_al (K : PySem.W.Frag) (H : Hp) (x : Int) : ∃ d, Dp K H (.int x) d ∧ AlOk 2 d := ⟨.int x, .int x, trivial⟩
theorem tupi_al {K : PySem.W.Frag} {H : Hp} {a : Addr} {l : List Int} (h : SqT K H a (l.map V.int)) (hl : l.length ≤ 1000) : ∃ d, Dp K H (.ref a) d ∧ AlOk 2 d := by
  have ha : ∀ l : List Int, DpAll K H (l.map V.int) (l.map PyData.int) := fun l => by
    induction l with
    | nil => exact .nil
    | cons x l ih => exact .cons (.int x) ih
  exact ⟨.tuple (l.map PyData.int), .tup h (ha l), by rw [List.length_map]; exact hl, fun e m => by
    obtain ⟨x, _, rfl⟩ := List.mem_map.mp m
    trivial⟩
theorem DL.ap {K : PySem.W.Frag} {H : Hp} {a b : List V} (h1 : DL K H a) (h2 : DL K H b) : DL K H (a ++ b) := fun v m => (List.mem_append.mp m).elim (h1 v) (h2 v)
theorem DL.ints {K : PySem.W.Frag} {H : Hp} (l : List Int) : DL K H (l.map V.int) := fun v m => by
  obtain ⟨x, _, rfl⟩ := List.mem_map.mp m
  exact int_al K H x
theorem TsAt.ne' {K : PySem.W.Frag} {H : Hp} {ta d : Addr} {G : Gm} {tv : List V} {sl : List (Option Tg)} (h1 : H ta = some (.lst tv)) (h3 : ∀ (i : Nat) (o : Option Tg), sl[i]? = some o → ∃ v : V, tv[i]? = some v ∧ SlX K H v o) (sa : SlAll G sl) (hd : Pot H d) : ta ≠ d := fun e => by
  obtain ⟨r, m, i, cs, g1, _⟩ := hd
  rw [e, g1] at h1
  injection h1 with h1
  injection h1 with h1
  obtain ⟨v, h4, h5⟩ := h3 0 (sl[0]'(by rw [sa.len]; decide)) (List.getElem?_eq_getElem _)
  have h5 := h5.at'
  rw [← h1] at h4
  injection h4 with h4
  subst h4
  cases hs : sl[0]'(by rw [sa.len]; decide) with
  | none =>
    rw [hs] at h5
    cases h5
  | some t =>
    rw [hs] at h5
    obtain ⟨_, _, h5, _⟩ := h5
    cases h5
theorem fnone {d q : Addr} {H H' : Hp} (f : Frm d H H') (n : q ≠ d) (h : H' q = none) : H q = none := by
  cases e : H q with
  | none => rfl
  | some z => exact absurd ((f _ _ n e).symm.trans h) (by simp)
theorem six (a b c x : Int) {w : Int} (w0 : 0 ≤ w) (w1 : w < 6) : ∃ z : Int, atI [V.int a, .int b, .int c, .int x, .int x, .int x] w = some (.int z) := by
  obtain ⟨n, rfl⟩ := Int.eq_ofNat_of_zero_le w0
  have hn : n = 0 ∨ n = 1 ∨ n = 2 ∨ n = 3 ∨ n = 4 ∨ n = 5 := by omega
  rcases hn with rfl | rfl | rfl | rfl | rfl | rfl
  · exact ⟨_, atI_nat rfl⟩
  · exact ⟨_, atI_nat rfl⟩
  · exact ⟨_, atI_nat rfl⟩
  · exact ⟨_, atI_nat rfl⟩
  · exact ⟨_, atI_nat rfl⟩
  · exact ⟨_, atI_nat rfl⟩
section
variable {P : Program} {w : World} {K : PySem.W.Frag} {mg : Str → Option Value} {base : Heap}
def spSrt (K : PySem.W.Frag) : Sp := fun vs H Q _ => ∃ (d : Addr) (g : V) (G : Gm) (m : Int), vs = [.ref d, g, .int m] ∧ 0 ≤ m ∧ m ≤ 100 ∧ Pot H d ∧ GmAt K H g G ∧ G.ok ∧ 1 ≤ G.kds.length ∧ ∀ (wa : Addr) (sl : List (Option Tg)) H', Frm d H H' → Pot H' d → WsD K H' wa sl → SlAll G sl → wa ≠ d → Q (.ref wa) H'
theorem scSr : FnScope ["pot", "game", "many", "w", "slot", "way", "rest", "mask", "i", "other"] ["pot", "game", "many"] (defScope s_law_start) := ⟨rfl, rfl, rfl, by decide +kernel, rfl, by decide +kernel, by decide +kernel⟩
theorem ok_law_start (T : Txt K w mg) : FnOk P w K mg base CX0 8 (He.fAd K ("_law_start", none)) (fdAt K (He.fAd K ("_law_start", none))) ["pot", "game", "many"] (spSrt K) := by
  refine T.F_law_start.ok scSr (fun vs H Q E h => ?_) (fun cdv A outer s H vs Q E hr h => ?_)
  · obtain ⟨d, g, G, m, rfl, _⟩ := h
    rfl
  · obtain ⟨d, g, G, m, rfl, m0, m1, hd, hg, o, k1, k⟩ := h
    refine ⟨_, PSs.nox (pss_cons (ps_set (i := 3) scSr.nd rfl (Or.inl rfl) (pe_op op_cat (pe_op op_cat (pe_call (ok_law_things T) (hr.mono (by first | decide | omega)) (by rfl) T.g_law_things (T.F_law_things).kp T.b_law_things .nil pass0 (pa_cons (pv 0) (pa_cons (pv 1) (pa_cons (pv 2) pa_nil)))) (pe_op op_rep (pe_lst (pa_cons (pe_tup pa_nil) pa_nil)) pe_int)) (pe_lst (pa_cons (pe_call (ok_law_take T) (hr.mono (by first | decide | omega)) (by rfl) T.g_law_take (T.F_law_take).kp T.b_law_take .nil pass0 (pa_cons (pv 0) (pa_cons pe_int pa_nil))) pa_nil))))
      (pss_cons (ps_set (i := 3) scSr.nd rfl (Or.inl rfl) (pe_op op_cat (pv 3) (pe_lc (own := [("i", 8)]) (g := gName 8) (tt := tYes) (by rfl) scSr.nd (pi_range1 (by rfl) T.n_range (pa_cons pe_int pa_nil)) (blkOk_by (own := [("i", 8)]) (N := ["pot", "game", "many", "w", "slot", "way", "rest", "mask", "i", "other"]) (sc := defScope s_law_start) (by decide +kernel)) (fun _ _ _ _ _ => pg_name (i := 8) scSr.nd rfl (Or.inl rfl)) (fun _ _ _ _ _ => pts_nil) (fun _ _ _ _ _ => (pe_op op_sub (pe_call (ok_law_take T) (hr.mono (by first | decide | omega)) (by rfl) T.g_law_take (T.F_law_take).kp T.b_law_take .nil pass0 (pa_cons (pv 0) (pa_cons pe_int pa_nil))) pe_int)))))
      (pss_cons (ps_for PassesOwn.never rfl (pi_range1 (by rfl) T.n_range (pa_cons pe_int pa_nil)) (pg_name (i := 4) scSr.nd rfl (Or.inr rfl)) (pss_one (ps_if (pt_cmpR op_notN (pe_ix (r := rIxL K) ix_list (pv 3) (pv 4) (fun _ _ => rfl)) pe_non (nomark _)) (pss_cons (ps_set (i := 5) scSr.nd rfl (Or.inl rfl) (pe_call (ok_law_take T) (hr.mono (by first | decide | omega)) (by rfl) T.g_law_take (T.F_law_take).kp T.b_law_take .nil pass0 (pa_cons (pv 0) (pa_cons pe_int pa_nil))))
      (pss_cons (ps_set (i := 6) scSr.nd rfl (Or.inl rfl) (pe_call (ok_law_rest T) (hr.mono (by first | decide | omega)) (by rfl) T.g_law_rest (T.F_law_rest).kp T.b_law_rest .nil pass0 (pa_cons (pv 1) (pa_cons (pv 3) (pa_cons pe_dnewK (pa_cons (pv 4) pa_nil))))))
      (pss_cons (ps_set (i := 6) scSr.nd rfl (Or.inl rfl) (pe_ix (r := rIxL K) ix_list (pe_lst (pa_cons (pe_un un_neg pe_int) (pa_cons (pe_un un_neg pe_int) (pa_cons (pe_op op_sub (pe_call (ok_law_take T) (hr.mono (by first | decide | omega)) (by rfl) T.g_law_take (T.F_law_take).kp T.b_law_take .nil pass0 (pa_cons (pv 0) (pa_cons pe_int pa_nil))) pe_int) (pa_cons (pv 6) (pa_cons (pv 6) (pa_cons (pv 6) pa_nil))))))) (pv 5) (fun _ _ => rfl)))
      (pss_cons (ps_asg (pe_op (show OpR _ _ (rCatA K) from op_catA) (pe_slice (show SlR _ (rSlA K) from sl_tupA) (pe_ix (r := rIxL K) ix_list (pv 3) (pv 4) (fun _ _ => rfl)) po_none (po_some pe_int)) (pe_tup (pa_cons (pv 6) (pa_cons (pe_ix (r := rIxT K) ix_tup (pe_ix (r := rIxL K) ix_list (pv 3) (pv 4) (fun _ _ => rfl)) pe_int (fun _ _ => rfl)) pa_nil)))) (pg_sub (pv 3) (pv 4) set_list))
      (pss_cons (ps_set (i := 7) scSr.nd rfl (Or.inr rfl) (pe_call (ok_law_take T) (hr.mono (by first | decide | omega)) (by rfl) T.g_law_take (T.F_law_take).kp T.b_law_take .nil pass0 (pa_cons (pv 0) (pa_cons pe_int pa_nil))))
      (pss_one (ps_asg (pe_callTy call_tuple_of (by rfl) T.n_tuple PyProof.Rows.Boot.«tuple» (pa_cons (pe_lc (own := [("other", 9)]) (g := gName 9) (by rfl) scSr.nd (pi_range1 (by rfl) T.n_range (pa_cons pe_int pa_nil)) (blkOk_by (own := [("other", 9)]) (N := ["pot", "game", "many", "w", "slot", "way", "rest", "mask", "i", "other"]) (sc := defScope s_law_start) (by decide +kernel)) (fun _ _ _ _ _ => pg_name (i := 9) scSr.nd rfl (Or.inl rfl)) (fun _ _ _ _ _ => pts_one (PW.pt (pw_and (pt_cmpR op_ne (pv 9) (pv 4) (nomark _)) (pw_and1 (pt_cmpR op_eq (pe_op op_and (pe_op op_shr (pv 7) (pv 9)) pe_int) pe_int (nomark _)))))) (fun _ _ _ _ _ => (pv 9))) pa_nil)) (pg_sub (pv 3) (pe_op op_add pe_int (pv 4)) set_list)))))))) pss_nil)))
      (pss_one (ps_ret (pv 3)))))), ?_⟩
    refine seq_cut (fun σ' H' => ∃ (c2 : Addr) (wv : List V) (sl : List (Option Tg)), σ' = [some (.ref d), some g, some (.int m), some (.ref c2), none, none, none, none, none, none] ∧ H' c2 = some (.lst wv) ∧ wv.length = 33 ∧ (∀ (i : Nat) (o : Option Tg), sl[i]? = some o → ∃ v : V, wv[i]? = some v ∧ SlX K H' v o) ∧ DL K H' wv ∧ SlAll G sl ∧ Frm d H H' ∧ Pot H' d) (fun σ' H' hP => ?_) (fun R hR => ?_)
    rotate_left
    · refine ⟨_, rfl, _, rfl, _, rfl, d, g, G, m, rfl, m0, m1, hd, hg, o, k1, fun ta sl H1 f1 d1 hts sa nta => ?_⟩
      have tad := hts.ts.ne sa d1
      refine ⟨(show 0 ≤ sizeLine by decide), fun e ne => ⟨(show 1 ≤ sizeLine by decide), fun p np => ⟨p, 16, [.ref e], rfl, rfl, upd_same, by decide, by decide, (show 1 * 16 ≤ sizeLine by decide), fun r nr => ?_⟩⟩⟩
      have sA := ((new_same (o := .tup []) ne).trans (new_same (o := .lst [V.ref e]) np)).trans (new_same (o := .lst (List.replicate (16 : Int).toNat [V.ref e]).flatten) nr)
      have htsA := hts.same sA
      have dA := d1.same sA
      obtain ⟨tv, h1, h2, h3, h4⟩ := htsA
      have hE : SqT K (upd (upd (upd H1 e (.tup [])) p (.lst [V.ref e])) r (.lst (List.replicate (16 : Int).toNat [V.ref e]).flatten)) e (([] : List Int).map V.int) := SqT.of (((new_same np).trans (new_same nr)) _ _ upd_same)
      have hR' : (upd (upd (upd H1 e (.tup [])) p (.lst [V.ref e])) r (.lst (List.replicate (16 : Int).toNat [V.ref e]).flatten)) r = some (.lst (List.replicate 16 (V.ref e))) := upd_same
      obtain ⟨HA, hHA⟩ : ∃ HA, HA = upd (upd (upd H1 e (.tup [])) p (.lst [V.ref e])) r (.lst (List.replicate (16 : Int).toNat [V.ref e]).flatten) := ⟨_, rfl⟩
      rw [← hHA] at sA dA h1 h3 h4 hE hR' ⊢
      refine ⟨ta, r, tv, _, rfl, rfl, h1, hR', Nat.le_trans (show tv.length + (List.replicate 16 (V.ref e)).length ≤ 100 by rw [h2, List.length_replicate]; decide) (by decide), fun c1 nc1 => ?_⟩
      have sB := new_same (o := .lst (tv ++ List.replicate 16 (V.ref e))) nc1
      refine ⟨_, rfl, d, 65537, rfl, by decide, by decide, dA.same sB, fun x H3 _ _ f3 d3 => ⟨(show 1 ≤ sizeLine by decide), fun q nq => ?_⟩⟩
      have sC := new_same (o := .lst [V.int x]) nq
      have c1d : c1 ≠ d := dA.ne nc1
      have hc1 := sC _ _ (f3 c1 _ c1d upd_same)
      refine ⟨c1, q, _, _, rfl, rfl, hc1, upd_same, Nat.le_trans (show (tv ++ List.replicate 16 (V.ref e)).length + 1 ≤ 100 by rw [List.length_append, h2, List.length_replicate]; decide) (by decide), fun c2 nc2 => ?_⟩
      have sD := new_same (o := .lst (tv ++ List.replicate 16 (V.ref e) ++ [V.int x])) nc2
      have tfZ := (same_tf sB).trans ((pot_tf f3 (dA.same sB)).trans (same_tf (sC.trans sD)))
      refine hR _ _ ⟨c2, tv ++ List.replicate 16 (V.ref e) ++ [V.int x], sl, rfl, upd_same, ?_, fun i o z => ?_, ?_, sa, ((f1.trans (Frm.of_same (sA.trans sB))).trans f3).trans (Frm.of_same (sC.trans sD)), d3.same (sC.trans sD)⟩
      · rw [List.length_append, List.length_append, h2, List.length_replicate]
        rfl
      · have hi := (List.getElem?_eq_some_iff.mp z).1
        rw [sa.len] at hi
        obtain ⟨v, g1, g2⟩ := h3 i o z
        exact ⟨v, by rw [List.getElem?_append_left (by rw [List.length_append]; omega), List.getElem?_append_left (by omega)]; exact g1, g2.tf tfZ⟩
      · refine ((DL.tf h4 tfZ).ap fun v m => ?_).ap (DL.ints [x])
        rw [List.eq_of_mem_replicate m]
        exact tupi_al (l := []) (tfZ.sq hE) (by decide)
    obtain ⟨c2, wv, sl, rfl, hc2, wl, hsl, hdl, sa, f1, d1⟩ := hP
    have c2d : c2 ≠ d := TsAt.ne' hc2 hsl sa d1
    refine seq_cut (fun σ' H' => ∃ (c2 : Addr), σ' = [some (.ref d), some g, some (.int m), some (.ref c2), none, none, none, none, none, none] ∧ WsD K H' c2 sl ∧ c2 ≠ d ∧ H c2 = none ∧ Frm d H H' ∧ Pot H' d) (fun σ' H' hP => ?_) (fun R hR => ?_)
    rotate_left
    · refine ⟨_, rfl, _, rfl, by decide, by decide, fun D2 hD2 => ?_⟩
      have D2d := d1.ne hD2
      refine lc_it (walk_r0 (n := 16)) (fun i H5 => ∃ us : List Int, Frm d H' H5 ∧ Pot H5 d ∧ H5 D2 = some (.lst (us.map V.int)) ∧ us.length = i) ⟨[], frm_new (Frm.refl _ _) hD2, d1.upd D2d, upd_same, rfl⟩ (fun _ _ _ _ => trivial) (fun i v H5 Hz hi h yy => ?_) (fun H5 h => ?_)
      · obtain ⟨rfl, rfl⟩ := yy
        obtain ⟨us, f5, d5, hl5, hlen5⟩ := h
        refine ⟨rfl, ?_⟩
        dsimp only [tYes]
        rw [if_pos rfl]
        exact ⟨_, rfl, d, 1999, rfl, by decide, by decide, d5, fun y H6 _ _ f6 d6 => ⟨_, _, rfl, rfl, us.map V.int, f6 _ _ D2d hl5, Nat.lt_of_le_of_lt (show (us.map V.int).length ≤ 24 by rw [List.length_map]; omega) (by decide), us ++ [y - 999], frm_new (f5.trans f6) hD2, d6.upd D2d, by rw [upd_same, List.map_append]; rfl, by simp [hlen5]⟩⟩
      obtain ⟨us, f5, d5, hl5, hlen5⟩ := h
      refine ⟨c2, D2, wv, _, rfl, rfl, f5 _ _ c2d hc2, hl5, Nat.le_trans (show wv.length + (us.map V.int).length ≤ 100 by rw [wl, List.length_map, hlen5]; decide) (by decide), fun c3 nc3 => ?_⟩
      have sD := new_same (o := .lst (wv ++ us.map V.int)) nc3
      have tfZ := (pot_tf f5 d1).trans (same_tf sD)
      refine hR _ _ ⟨c3, rfl, ⟨_, upd_same, by rw [List.length_append, wl, List.length_map, hlen5], fun i o z => ?_, (DL.tf hdl tfZ).ap (DL.ints us)⟩, d5.ne nc3, fnone (f1.trans f5) (d5.ne nc3) nc3, (f1.trans f5).trans (Frm.of_same sD), d5.same sD⟩
      have hi := (List.getElem?_eq_some_iff.mp z).1
      rw [sa.len] at hi
      obtain ⟨v, g1, g2⟩ := hsl i o z
      exact ⟨v, by rw [List.getElem?_append_left (by omega)]; exact g1, g2.tf tfZ⟩
    clear hc2 hsl hdl c2d f1 d1
    obtain ⟨c2, rfl, hws, c2d, c2n, f1, d1⟩ := hP
    refine ⟨16, rfl, by decide, by decide, ?_⟩
    refine L2.for_it (walk_r0 (n := 16)) (fun i σ H' => ∃ (sl : List (Option Tg)) (v4 v5 v6 v7 : Option V), σ = [some (.ref d), some g, some (.int m), some (.ref c2), v4, v5, v6, v7, none, none] ∧ Frm d H H' ∧ Pot H' d ∧ WsD K H' c2 sl ∧ SlAll G sl) ⟨sl, _, _, _, _, rfl, f1, d1, hws, sa⟩ (fun _ _ _ _ _ => trivial) (fun i x σ H4 Hx hi hPv hy => ?_) (fun σ H4 hPv => ?_)
    · obtain ⟨sl, v4, v5, v6, v7, rfl, F, dp, hw, sa⟩ := hPv
      obtain ⟨rfl, rfl⟩ := hy
      obtain ⟨wv, hwv, wl, hwx, hwd⟩ := id hw
      obtain ⟨so, hso⟩ : ∃ so, sl[i]? = some so := ⟨_, List.getElem?_eq_getElem (by rw [sa.len]; omega)⟩
      obtain ⟨v, hv1, hv2⟩ := hwx i so hso
      refine ⟨_, rfl, _, rfl, c2, _, _, _, rfl, rfl, SqL.of hwv, atI_nat hv1, rfl, ?_⟩
      cases so with
      | none =>
        obtain rfl : v = .non := hv2
        exact ⟨_, rfl, iteF ⟨sl, _, _, _, _, rfl, F, dp, hw, sa⟩⟩
      | some t =>
        have hv2 : TgX K Hx v t := hv2
        obtain ⟨ta, oa, rfl, hta, hoa, ol⟩ := id hv2
        refine ⟨_, rfl, iteT ?_⟩
        refine ⟨_, rfl, d, 6, rfl, by decide, by decide, dp, fun way H5 w0 w1 f5 d5 => ?_⟩
        have hw5 := hw.frm dp f5 c2d
        have F5 := F.trans f5
        refine ⟨_, rfl, _, rfl, fun nd nnd => ⟨_, rfl, ?_⟩⟩
        have s6 := new_same (o := .dK []) nnd
        have ndd : nd ≠ d := d5.ne nnd
        have nd0 : H nd = none := fnone F5 ndd nnd
        have hw6 := hw5.same s6
        have d6 := d5.same s6
        have hk6 : (upd H5 nd (.dK [])) nd = some (.dK []) := upd_same
        have F6 := F5.trans (Frm.of_same s6)
        refine ⟨_, c2, nd, G, sl, i, t, _, rfl, hg.tf (pot_tf F6 hd), o, sa, by omega, hso, hw6.wl, kset_nil hk6, fun H7 f7 _ => ?_⟩
        have tf7 := Frm.tfk f7 hk6
        have c2nd : c2 ≠ nd := fun e => by
          obtain ⟨_, z, _⟩ := hw6
          rw [e, hk6] at z
          cases z
        have e7 : ∀ b, b ≠ nd → (∃ o, (upd H5 nd (.dK [])) b = some o) → H7 b = (upd H5 nd (.dK [])) b := fun b n ⟨o, z⟩ => by rw [f7 _ _ n z, z]
        have hw7 := hw6.tf tf7 (e7 c2 c2nd (by obtain ⟨_, z, _⟩ := hw6; exact ⟨_, z⟩))
        have d7 := d6.keep (e7 d (Ne.symm ndd) (by obtain ⟨_, z⟩ := d6.lst; exact ⟨_, z⟩))
        have F7 : Frm d H H7 := fun b o n z => f7 _ _ (ne_of_none z nd0) (F6 _ _ n z)
        refine ⟨_, rfl, _, rfl, _, rfl, d, 18, rfl, by decide, by decide, d7, fun x8 H8 _ _ f8 d8 => ⟨_, _, rfl, rfl, _, rfl, _, rfl, _, rfl, (show 6 ≤ sizeLine by decide), fun pl npl => ?_⟩⟩
        obtain ⟨r, hr6⟩ := six (-2) (-1) (x8 - 2) (restF G sl i) w0 w1
        have s9 := new_same (o := .lst [V.int (-2), .int (-1), .int (x8 - 2), .int (restF G sl i), .int (restF G sl i), .int (restF G sl i)]) npl
        refine ⟨_, rfl, pl, _, _, .int r, rfl, rfl, SqL.of upd_same, hr6, ?_⟩
        have hw9 := (hw7.frm d7 f8 c2d).same s9
        have d9 := d8.same s9
        have F9 := (F7.trans f8).trans (Frm.of_same s9)
        obtain ⟨H9, hH9⟩ : ∃ H9, H9 = upd H8 pl (.lst [V.int (-2), .int (-1), .int (x8 - 2), .int (restF G sl i), .int (restF G sl i), .int (restF G sl i)]) := ⟨_, rfl⟩
        show gName 6 _ _ (upd H8 pl (.lst [V.int (-2), .int (-1), .int (x8 - 2), .int (restF G sl i), .int (restF G sl i), .int (restF G sl i)])) _
        rw [← hH9] at hw9 d9 F9 ⊢
        obtain ⟨wv9, hwv9, wl9, hwx9, hwd9⟩ := id hw9
        obtain ⟨v9, hv91, hv92⟩ := hwx9 i _ hso
        obtain ⟨ta, oa, rfl, hta, hoa, ol⟩ : TgX K H9 v9 t := hv92
        refine ⟨_, rfl, _, rfl, c2, _, _, _, rfl, rfl, SqL.of hwv9, atI_nat hv91, _, rfl, slA_gen hta fun q H10 s10 hq => ?_⟩
        have hq : SqT K H10 q [V.int (t.k : Int), V.int t.hs, V.int t.x, V.int t.y, V.int t.dx, V.int t.dy] := hq
        have hta10 := (same_tf s10).sq hta
        have hw10 := hw9.same s10
        obtain ⟨wvA, hwvA, wlA, hwxA, hwdA⟩ := id hw10
        have hwvA' : wvA = wv9 := by
          have := (s10 _ _ hwv9).symm.trans hwvA
          injection this with this
          injection this with this
          exact this.symm
        subst hwvA'
        refine ⟨_, rfl, _, rfl, _, rfl, c2, _, _, _, rfl, rfl, SqL.of hwvA, atI_nat hv91, ta, _, _, _, rfl, rfl, hta10, atI_nat (j := 7) rfl, (show 2 ≤ sizeLine by decide), fun pt npt => ?_⟩
        have s11 := new_same (o := .tup [V.int r, .ref oa]) npt
        refine ⟨q, pt, _, _, rfl, rfl, (same_tf s11).sq hq, SqT.of upd_same, (show 8 ≤ sizeLine by decide), (fun e => nomatch e), (fun _ e => nomatch e), fun _ _ pn npn => ?_⟩
        have s12 := new_same (o := .tup [V.int (t.k : Int), V.int t.hs, V.int t.x, V.int t.y, V.int t.dx, V.int t.dy, .int r, .ref oa]) npn
        have S12 := (s10.trans s11).trans s12
        have hwB := hw9.same S12
        have dB := d9.same S12
        have FB := F9.trans (Frm.of_same S12)
        have hoaB := (same_tf S12).sq hoa
        obtain ⟨wvB, hB1, hB2, hB3, hB4⟩ := id hwB
        refine ⟨_, rfl, _, rfl, c2, wvB, (i : Int), i, rfl, rfl, hB1, ixN_nat (by omega), ?_⟩
        have hwC := WsD.put (t := { t with rest := r }) hB1 hB2 hB3 hB4 (by omega) sa.len ⟨pn, oa, rfl, SqT.of upd_same, hoaB, ol⟩
        have saC := sa.put (s := i) (t := { t with rest := r }) ⟨(sa.ok t (List.mem_of_getElem? hso)).k, (sa.ok t (List.mem_of_getElem? hso)).x1, (sa.ok t (List.mem_of_getElem? hso)).x2, (sa.ok t (List.mem_of_getElem? hso)).y1, (sa.ok t (List.mem_of_getElem? hso)).y2⟩
        have dC := dB.upd c2d (o := .lst (wvB.set i (.ref pn)))
        have FC := frm_new (o := .lst (wvB.set i (.ref pn))) FB c2n
        refine ⟨_, rfl, d, 65536, rfl, by decide, by decide, dC, fun mk H13 _ _ f13 d13 => ?_⟩
        have hw13 := hwC.frm dC f13 c2d
        have F13 := FC.trans f13
        refine ⟨_, rfl, by decide, by decide, fun D2 hD2 => ?_⟩
        refine lc_it (walk_r0 (n := 16)) (fun j H5 => ∃ us : List Int, Same H13 H5 ∧ H5 D2 = some (.lst (us.map V.int)) ∧ us.length ≤ j) ⟨[], new_same hD2, upd_same, Nat.le_refl _⟩ (fun _ _ _ _ => trivial) (fun j v H5 Hz hj h yy => ?_) (fun H5 h => ?_)
        · obtain ⟨rfl, rfl⟩ := yy
          obtain ⟨us, sm, hl, al⟩ := h
          refine ⟨rfl, _, rfl, _, rfl, rfl, _, rfl, ite2 (fun _ => ?_) (fun _ => iteF ⟨us, sm, hl, by omega⟩)⟩
          refine ⟨_, rfl, _, rfl, _, _, rfl, rfl, Int.natCast_nonneg j, _, _, rfl, rfl, rfl, _, rfl, ite2 (fun _ => ?_) (fun _ => ⟨us, sm, hl, by omega⟩)⟩
          refine ⟨_, rfl, _, hl, Nat.lt_of_le_of_lt (show (us.map V.int).length ≤ 24 by rw [List.length_map]; omega) (by decide), us ++ [(j : Int)], fun c o z => ?_, by rw [upd_same, List.map_append]; rfl, by rw [List.length_append]; simp only [List.length_cons, List.length_nil]; omega⟩
          rw [upd_ne (ne_of_none z hD2)]
          exact sm _ _ z
        obtain ⟨us, sm, hl, al⟩ := h
        refine ⟨D2, _, rfl, .inl ⟨SqL.of hl, fun pz npz => ?_⟩⟩
        have sz := sm.trans (new_same (o := .tup (us.map V.int)) npz)
        obtain ⟨wvZ, hZ1, hZ2, hZ3, hZ4⟩ := hw13.same sz
        have hix : ixN wvZ.length (16 + (i : Int)) = some (16 + i) := ixN_nat (n := wvZ.length) (s := 16 + i) (by omega)
        refine ⟨_, rfl, _, rfl, _, _, rfl, rfl, c2, wvZ, _, 16 + i, rfl, rfl, hZ1, hix, ?_⟩
        exact ⟨_, _, _, _, _, rfl, frm_new (F13.trans (Frm.of_same sz)) c2n, (d13.same sz).upd c2d, WsD.put2 hZ1 hZ2 hZ3 hZ4 (by omega) saC.len (tupi_al (SqT.of upd_same) (by omega)), saC⟩
    · obtain ⟨sl, v4, v5, v6, v7, rfl, F, dp, hw, sa⟩ := hPv
      exact ⟨_, rfl, k c2 sl H4 F dp hw sa c2d⟩
end
end K22
set_option maxRecDepth 100000
set_option maxHeartbeats 4000000
/-! d.update(e), for two dicts. -/
namespace KU
open PySem PySem.Spec PyProof.Rows L2
def mergeV (kvs more : List (Key × V)) : List (Key × V) := more.foldl (fun acc kv => putK acc kv.1 kv.2) kvs
theorem mergeV_len : ∀ (more kvs : List (Key × V)), (mergeV kvs more).length ≤ kvs.length + more.length
  | [], _ => Nat.le_refl _
  | kv :: more, kvs => by
    have h1 := mergeV_len more (putK kvs kv.1 kv.2)
    have h2 := length_putK kvs kv.1 kv.2
    show (mergeV (putK kvs kv.1 kv.2) more).length ≤ kvs.length + (more.length + 1)
    omega
theorem kv_merged : ∀ {more : List (Key × V)} {vs2 : List (Key × Value)}, KV more vs2 → ∀ {kvs : List (Key × V)} {vs : List (Key × Value)}, KV kvs vs → KV (mergeV kvs more) (merged vs vs2) := by
  intro more vs2 h
  induction h with
  | nil => exact fun h => h
  | cons hr _ ih => exact fun h => ih (by dsimp only; rw [hr.1]; exact h.put _ hr.2)
section
variable {X : Cx} {pins : List (Addr × Obj)} {σ : L2.St} {H : Hp} {s : Shared} {a b : Addr} {kvs more : List (Key × V)} {E : Value → Shared → Prop}
theorem d_update {Qv : Value → Shared → Prop} (J : Inv X pins σ H s) (ha : H a = some (.dK kvs)) (hb : H b = some (.dK more)) (ne : a ≠ b) (hz : kvs.length + more.length ≤ sizeLine) (fin : ∀ s2, Inv X pins σ (upd H a (.dK (mergeV kvs more))) s2 → Qv .none s2) :
    wpAny (model X.prog X.w) X.A (call (.builtin "dict.update") [.ref a, .ref b]) Qv E s := by
  obtain ⟨z1, n1, us1, rl1, dd1⟩ := dk_of J.hok ha
  obtain ⟨z2, n2, us2, rl2, dd2⟩ := dk_of J.hok hb
  refine call_meetsIn PySem.F.slot_dict_update dd1.typeIs PySem.F.entry_dict_update (PySem.F.args_dict_update_2 _ _) (meets_dict_update (mixKind X.prog X.w) a b ne n2)
    ⟨us1, us2, dd1, dd2, by rw [← rl1.length, ← rl2.length]; exact hz, fun hp3 dd3 _ sb => fin _ ?_⟩
  have there : ∃ ob, hp3.get? a = some ob := by
    obtain ⟨ob, _, _, hob, _⟩ := dd3
    exact ⟨ob, hob⟩
  exact d_write (t' := s.toks) J (by rw [ha]; exact True.intro) sb there (dk_new (Nat.le_trans (mergeV_len more kvs) hz) n1 (kv_merged rl2 rl1) dd3)
def rUpd : V → List V → Hp → VK → Prop := fun x vs H Q => ∃ (a b : Addr) (kvs more : List (Key × V)), x = .ref a ∧ vs = [.ref b] ∧ H a = some (.dK kvs) ∧ H b = some (.dK more) ∧ a ≠ b ∧ kvs.length + more.length ≤ sizeLine ∧ Q .non (upd H a (.dK (mergeV kvs more)))
theorem mt_update : MtR X "dict.update" rUpd := by
  intro pn st σ' H1 x vs v us Qv J rl1 rl2 asks
  obtain ⟨a, b, kvs, more, rfl, rfl, ha, hb, ne, hz, q⟩ := asks
  cases rl1
  obtain ⟨u, rfl, ru⟩ := rl2.one
  cases ru
  exact d_update J ha hb ne hz fun s2 J2 => ⟨.non, _, J2, rfl, q⟩
end
end KU
set_option maxRecDepth 100000
set_option maxHeartbeats 4000000
/-! The state of the law. -/
namespace K22
open PySem PySem.Spec PyProof.Rows L2 KF KD KP
theorem merge_kset {H : Hp} {d : Addr} : ∀ (more acc : List (Key × V)) (p : Int → Prop), KSet (upd H d (.dK acc)) d p → (∀ kv ∈ more, ∃ c : Int, kv.1 = .inl c ∧ Cel c) → KSet (upd H d (.dK (KU.mergeV acc more))) d (fun c => p c ∨ (.inl c : Key) ∈ more.map (·.1))
  | [], acc, p, h, _ => h.imp fun c => by simp
  | kv :: more, acc, p, h, hc => by
    obtain ⟨c, e, hcel⟩ := hc kv List.mem_cons_self
    have h1 := kset_put (v := kv.2) h upd_same hcel
    have h2 : KSet (upd H d (.dK (putK acc kv.1 kv.2))) d (fun x => p x ∨ x = c) := by
      rw [e]
      exact h1.keep (by rw [upd_same, upd_same])
    refine (merge_kset more _ _ h2 fun kv' m => hc kv' (List.mem_cons_of_mem _ m)).imp fun x => ?_
    rw [List.map_cons, List.mem_cons, e, or_assoc]
    constructor
    · rintro (z | z | z)
      · exact .inl z
      · exact .inr (.inl (by rw [z]))
      · exact .inr (.inr z)
    · rintro (z | z | z)
      · exact .inl z
      · exact .inr (.inl (by injection z))
      · exact .inr (.inr z)
theorem kset_merge {H : Hp} {d e : Addr} {p q : Int → Prop} {kvs more : List (Key × V)} (h1 : KSet H d p) (h2 : KSet H e q) (e1 : H d = some (.dK kvs)) (e2 : H e = some (.dK more)) : KSet (upd H d (.dK (KU.mergeV kvs more))) d fun c => p c ∨ q c := by
  obtain ⟨kvs2, ks, g1, g2, _, g4, g5⟩ := h2
  rw [e2] at g1
  injection g1 with g1
  injection g1 with g1
  subst g1
  refine (merge_kset more kvs p (h1.keep (by rw [upd_same, e1])) fun kv m => ?_).imp fun c => ?_
  · have hm : kv.1 ∈ more.map (·.1) := List.mem_map.mpr ⟨kv, m, rfl⟩
    rw [g2] at hm
    obtain ⟨c, hc, e⟩ := List.mem_map.mp hm
    exact ⟨c, e.symm, g5 c hc⟩
  · rw [g2]
    refine or_congr Iff.rfl ?_
    rw [← g4]
    constructor
    · intro z
      obtain ⟨x, hx, e⟩ := List.mem_map.mp z
      injection e with e
      rw [← e]
      exact hx
    · exact fun z => List.mem_map.mpr ⟨c, z, rfl⟩
/-- all but three -/
def F3 (x y z : Addr) (H H' : Hp) : Prop := ∀ b o, b ≠ x → b ≠ y → b ≠ z → H b = some o → H' b = some o
theorem F3.refl (x y z : Addr) (H : Hp) : F3 x y z H H := fun _ _ _ _ _ h => h
theorem F3.trans {x y z : Addr} {H H1 H2 : Hp} (a : F3 x y z H H1) (b : F3 x y z H1 H2) : F3 x y z H H2 := fun c o n m l h => b c o n m l (a c o n m l h)
theorem F3.a {x y z : Addr} {H H' : Hp} (a : Frm x H H') : F3 x y z H H' := fun c o n _ _ h => a c o n h
theorem F3.b {x y z : Addr} {H H' : Hp} (a : Frm y H H') : F3 x y z H H' := fun c o _ n _ h => a c o n h
theorem F3.c {x y z : Addr} {H H' : Hp} (a : Frm z H H') : F3 x y z H H' := fun c o _ _ n h => a c o n h
theorem F3.s {x y z : Addr} {H H' : Hp} (a : Same H H') : F3 x y z H H' := fun c o _ _ _ h => a c o h
/-- the state between two steps of the law -/
structure LSt (K : PySem.W.Frag) (H : Hp) (d : Addr) (g : V) (wa wt ea eld kd : Addr) (G : Gm) (sl : List (Option Tg)) (wv : List V) (wd : List PyData) (p : Int → Prop) : Prop where
  pot : Pot H d
  gm : GmAt K H g G
  ok : G.ok
  sa : SlAll G sl
  ws : WsD K H wa sl
  wtt : WtAt K H wt wv G sl
  dd : DpAll K H wv wd
  al : ∀ e ∈ wd, AlOk 2 e
  ey : LkAt K H ea wt eld p
  kn : KSet H kd p
  ne : eld ≠ kd
  wn : wa ≠ d
theorem LSt.tf {K : PySem.W.Frag} {H H' : Hp} {d : Addr} {g : V} {wa wt ea eld kd : Addr} {G : Gm} {sl : List (Option Tg)} {wv : List V} {wd : List PyData} {p : Int → Prop} (h : LSt K H d g wa wt ea eld kd G sl wv wd p) (f : F3 d eld kd H H') : TF H H' := fun c ys z => by
  obtain ⟨xs, hd⟩ := h.pot.lst
  obtain ⟨_, _, he⟩ := h.ey
  obtain ⟨k1, he⟩ := he.dict
  obtain ⟨k2, hk⟩ := h.kn.dict
  rcases z with z | ⟨u, z⟩
  · exact .inl (f c _ (fun q => by rw [q, hd] at z; cases z) (fun q => by rw [q, he] at z; cases z) (fun q => by rw [q, hk] at z; cases z) z)
  · exact .inr ⟨u, f c _ (fun q => by rw [q, hd] at z; cases z) (fun q => by rw [q, he] at z; cases z) (fun q => by rw [q, hk] at z; cases z) z⟩
/-- on to another heap -/
theorem LSt.mv {K : PySem.W.Frag} {H H' : Hp} {d : Addr} {g : V} {wa wt ea eld kd : Addr} {G : Gm} {sl : List (Option Tg)} {wv : List V} {wd : List PyData} {p q : Int → Prop} (h : LSt K H d g wa wt ea eld kd G sl wv wd p) (f : F3 d eld kd H H') (pd : Pot H' d) (ke : KSet H' eld q) (kk : KSet H' kd q) : LSt K H' d g wa wt ea eld kd G sl wv wd q := by
  have tf := h.tf f
  obtain ⟨xs, hd⟩ := h.pot.lst
  obtain ⟨dx, ha, he⟩ := h.ey
  obtain ⟨k1, he⟩ := he.dict
  obtain ⟨k2, hk⟩ := h.kn.dict
  obtain ⟨wl, hw, _⟩ := id h.ws
  refine ⟨pd, h.gm.tf tf, h.ok, h.sa, h.ws.tf tf ?_, h.wtt.tf tf, dpa_nl tf _ _ (al_nls h.al) h.dd, h.al, ⟨dx, f _ _ (fun q => ?_) (fun q => ?_) (fun q => ?_) ha, ke⟩, kk, h.ne, h.wn⟩
  · rw [hw]
    exact f _ _ h.wn (fun q => by rw [q, he] at hw; cases hw) (fun q => by rw [q, hk] at hw; cases hw) hw
  · rw [q, hd] at ha
    cases ha
  · rw [q, he] at ha
    cases ha
  · rw [q, hk] at ha
    cases ha
/-- draws -/
theorem LSt.take {K : PySem.W.Frag} {H H' : Hp} {d : Addr} {g : V} {wa wt ea eld kd : Addr} {G : Gm} {sl : List (Option Tg)} {wv : List V} {wd : List PyData} {p : Int → Prop} (h : LSt K H d g wa wt ea eld kd G sl wv wd p) (f : Frm d H H') (pd : Pot H' d) : LSt K H' d g wa wt ea eld kd G sl wv wd p := by
  obtain ⟨xs, hd⟩ := h.pot.lst
  obtain ⟨dx, ha, he⟩ := id h.ey
  obtain ⟨k1, he'⟩ := he.dict
  obtain ⟨k2, hk⟩ := h.kn.dict
  exact h.mv (F3.a f) pd (he.frm f fun q => by rw [q, hd] at he'; cases he') (h.kn.frm f fun q => by rw [q, hd] at hk; cases hk)
theorem LSt.same {K : PySem.W.Frag} {H H' : Hp} {d : Addr} {g : V} {wa wt ea eld kd : Addr} {G : Gm} {sl : List (Option Tg)} {wv : List V} {wd : List PyData} {p : Int → Prop} (h : LSt K H d g wa wt ea eld kd G sl wv wd p) (s : Same H H') : LSt K H' d g wa wt ea eld kd G sl wv wd p := by
  obtain ⟨dx, ha, he⟩ := id h.ey
  exact h.mv (F3.s s) (h.pot.same s) (he.same s) (h.kn.same s)
/-- a dict that is none of them is written -/
theorem LSt.oth {K : PySem.W.Frag} {H H' : Hp} {d : Addr} {g : V} {wa wt ea eld kd x : Addr} {G : Gm} {sl : List (Option Tg)} {wv : List V} {wd : List PyData} {p : Int → Prop} {kvs : List (Key × V)} (h : LSt K H d g wa wt ea eld kd G sl wv wd p) (f : Frm x H H') (hx : H x = some (.dK kvs)) (n1 : x ≠ eld) (n2 : x ≠ kd) : LSt K H' d g wa wt ea eld kd G sl wv wd p := by
  have tf := Frm.tfk f hx
  obtain ⟨xs, hd⟩ := h.pot.lst
  obtain ⟨dx, ha, he⟩ := h.ey
  obtain ⟨wl, hw, _⟩ := id h.ws
  refine ⟨h.pot.keep ?_, h.gm.tf tf, h.ok, h.sa, h.ws.tf tf ?_, h.wtt.tf tf, dpa_nl tf _ _ (al_nls h.al) h.dd, h.al, ⟨dx, f _ _ (fun q => by rw [q, hx] at ha; cases ha) ha, he.frm f (Ne.symm n1)⟩, h.kn.frm f (Ne.symm n2), h.ne, h.wn⟩
  · rw [hd]
    exact f _ _ (fun q => by rw [q, hx] at hd; cases hd) hd
  · rw [hw]
    exact f _ _ (fun q => by rw [q, hx] at hw; cases hw) hw
theorem seen_lt {G : Gm} {sl : List (Option Tg)} {b : Bx} {but : List Nat} {c : Int} {n : Nat} (o : G.ok) (l : b.lim) (hn : (n : Int) = 49 + G.bh * G.bw) (h : seenS G sl b but c) : (0 ≤ c ∧ c < (n : Int)) := by
  have b40 := bhw o
  rcases h with h | ⟨s, rfl, h, _⟩
  · have := blk_mem o l h
    omega
  · omega
theorem same_ys {p : Int → Prop} {xs ys : List Int} (h1 : xs.Pairwise (· < ·)) (h2 : ys.Pairwise (· < ·)) (e1 : ∀ c, c ∈ xs ↔ p c) (e2 : ∀ c, c ∈ ys ↔ p c) : xs = ys := srt_uniq _ _ h1 h2 fun c => (e1 c).trans (e2 c).symm
theorem ys_len {p : Int → Prop} {ys : List Int} (h : ys.Pairwise (· < ·)) (e : ∀ c, c ∈ ys ↔ p c) {H : Hp} {d : Addr} (k : KSet H d p) : ys.length ≤ 1000 := by
  obtain ⟨_, ks, _, _, _, g4, g5⟩ := k
  have : ys.length ≤ 56 := cel_len (h.imp fun z e => by omega) fun c hc => g5 c ((g4 c).mpr ((e c).mp hc))
  omega
theorem bkD4 (l : List Nat) (h : l.length ≤ 16) : AlOk 4 (bkD l) := ⟨by rw [List.length_map]; omega, fun e he => by
  obtain ⟨n, _, rfl⟩ := List.mem_map.mp he
  trivial⟩
theorem bkD_dp {K : PySem.W.Frag} {H : Hp} {a : Addr} {l : List Nat} (h : SqT K H a (nV l)) : Dp K H (.ref a) (bkD l) := .tup h (dpa_ints l)
theorem new_looks {H H' : Hp} {a dx C : Addr} (na : H a = none) (nd : H dx = none) (f : Frm a (upd (upd H dx (.own a)) a (.ins C dx [])) H') : Same H H' := fun b o z => by
  have h1 : b ≠ a := ne_of_none z na
  refine f b o h1 ?_
  rw [upd_ne h1, upd_ne (ne_of_none z nd)]
  exact z
theorem none_looks {H : Hp} {a dx ld : Addr} {o1 o2 : HO} (h : (upd (upd H dx o1) a o2) ld = none) : H ld = none := by
  by_cases h1 : ld = a
  · rw [h1, upd_same] at h
    cases h
  · rw [upd_ne h1] at h
    by_cases h2 : ld = dx
    · rw [h2, upd_same] at h
      cases h
    · rw [upd_ne h2] at h
      exact h
theorem LSt.exk {K : PySem.W.Frag} {H H' : Hp} {d : Addr} {g : V} {wa wt ea eld kd x : Addr} {G : Gm} {sl : List (Option Tg)} {wv : List V} {wd : List PyData} {p r : Int → Prop} (h : LSt K H d g wa wt ea eld kd G sl wv wd p) (f : F3 d eld kd H H') (k : KSet H x r) (n1 : x ≠ eld) (n2 : x ≠ kd) : KSet H' x r := by
  obtain ⟨kvs, hk⟩ := k.dict
  obtain ⟨xs, hd⟩ := h.pot.lst
  refine k.keep ?_
  rw [hk]
  exact f _ _ (fun e => by rw [e, hd] at hk; cases hk) n1 n2 hk
theorem LSt.exl {K : PySem.W.Frag} {H H' : Hp} {d : Addr} {g : V} {wa wt ea eld kd a wt2 x : Addr} {G : Gm} {sl : List (Option Tg)} {wv : List V} {wd : List PyData} {p r : Int → Prop} (h : LSt K H d g wa wt ea eld kd G sl wv wd p) (f : F3 d eld kd H H') (k : LkAt K H a wt2 x r) (n1 : x ≠ eld) (n2 : x ≠ kd) : LkAt K H' a wt2 x r := by
  obtain ⟨dx, ha, kx⟩ := k
  obtain ⟨xs, hd⟩ := h.pot.lst
  obtain ⟨_, _, he⟩ := id h.ey
  obtain ⟨k1, he⟩ := he.dict
  obtain ⟨k2, hk⟩ := h.kn.dict
  exact ⟨dx, f _ _ (fun e => by rw [e, hd] at ha; cases ha) (fun e => by rw [e, he] at ha; cases ha) (fun e => by rw [e, hk] at ha; cases ha) ha, h.exk f kx n1 n2⟩
theorem nkey {H : Hp} {x y : Addr} {p : Int → Prop} (h : H x = none) (k : KSet H y p) : x ≠ y := fun e => by
  obtain ⟨_, z⟩ := k.dict
  rw [e, z] at h
  cases h
theorem LSt.n0 {K : PySem.W.Frag} {H H' : Hp} {d : Addr} {g : V} {wa wt ea eld kd x : Addr} {G : Gm} {sl : List (Option Tg)} {wv : List V} {wd : List PyData} {p : Int → Prop} (h : LSt K H' d g wa wt ea eld kd G sl wv wd p) (f : F3 d eld kd H H') (n : H' x = none) : H x = none := by
  cases e : H x with
  | none => rfl
  | some z => exact absurd ((f _ _ (h.pot.ne n) (nkey n h.ey.choose_spec.2) (nkey n h.kn) e).symm.trans n) (by simp)
theorem F3.fr {x y z q : Addr} {H H1 H2 : Hp} (f : F3 x y z H H1) (n : H q = none) (g : Frm q H1 H2) : F3 x y z H H2 := fun b o n1 n2 n3 h => g _ _ (ne_of_none h n) (f _ _ n1 n2 n3 h)
theorem pick4 {K : PySem.W.Frag} {H : Hp} {p0 p1 p2 p3 : Addr} {w : Int} (h0 : SqT K H p0 [.int (-1), .int 0]) (h1 : SqT K H p1 [.int 1, .int 0]) (h2 : SqT K H p2 [.int 0, .int (-1)]) (h3 : SqT K H p3 [.int 0, .int 1]) (w0 : 0 ≤ w) (w1 : w < 4) : ∃ (pv : Addr) (x y : Int), atI [V.ref p0, .ref p1, .ref p2, .ref p3] w = some (.ref pv) ∧ SqT K H pv [.int x, .int y] ∧ (x, y) ∈ dirs := by
  obtain ⟨n, rfl⟩ := Int.eq_ofNat_of_zero_le w0
  have hn : n = 0 ∨ n = 1 ∨ n = 2 ∨ n = 3 := by omega
  rcases hn with rfl | rfl | rfl | rfl
  · exact ⟨p0, _, _, atI_nat rfl, h0, by decide⟩
  · exact ⟨p1, _, _, atI_nat rfl, h1, by decide⟩
  · exact ⟨p2, _, _, atI_nat rfl, h2, by decide⟩
  · exact ⟨p3, _, _, atI_nat rfl, h3, by decide⟩
theorem dirs_neg {x y : Int} (h : (x, y) ∈ dirs) : (-x, -y) ∈ dirs := by
  simp only [dirs, List.mem_cons, List.not_mem_nil, or_false, Prod.mk.injEq] at h ⊢
  omega
theorem kset_one {H : Hp} {d : Addr} {s : Nat} {v : V} (s16 : s < 16) (h : H d = some (.dK [(.inl (s : Int), v)])) : KSet H d fun c => c = (s : Int) := ⟨_, [(s : Int)], h, rfl, by simp, fun c => by simp, fun c hc => by
  obtain rfl : c = (s : Int) := by simpa using hc
  exact .inl (by omega)⟩
theorem bxS_lim {G : Gm} {sl : List (Option Tg)} (o : G.ok) (sa : SlAll G sl) (s : Nat) {dx dy : Int} (h : (dx, dy) ∈ dirs) : ((bxS G sl s).mv dx dy).lim := by
  have hdd : -1 ≤ dx ∧ dx ≤ 1 ∧ -1 ≤ dy ∧ dy ≤ 1 := by
    simp only [dirs, List.mem_cons, List.not_mem_nil, or_false, Prod.mk.injEq] at h
    omega
  unfold bxS
  split
  · rename_i t e
    exact ((sa.ok t (List.mem_of_getElem? e)).lim o).2.1 dx dy hdd.1 hdd.2.1 hdd.2.2.1 hdd.2.2.2
  · exact lim_box (by show -5000 ≤ 0 + dx; omega) (by show 0 + dx ≤ 5000; omega) (by show -5000 ≤ 0 + dy; omega) (by show 0 + dy ≤ 5000; omega) (show (1 : Int) ≤ 1 by decide) (show (1 : Int) ≤ 20 by decide) (show (1 : Int) ≤ 1 by decide) (show (1 : Int) ≤ 20 by decide)
theorem joinS_lt {G : Gm} {sl : List (Option Tg)} {dx dy c : Int} {going : List Nat} {s n : Nat} (o : G.ok) (sa : SlAll G sl) (hd : (dx, dy) ∈ dirs) (hn : (n : Int) = 49 + G.bh * G.bw) (h : joinS G sl dx dy going s c) : 0 ≤ c ∧ c < (n : Int) := seen_lt o (bxS_lim o sa s hd) hn h.2.2
theorem lotS_lt {G : Gm} {sl : List (Option Tg)} {dx dy c : Int} {n : Nat} (o : G.ok) (sa : SlAll G sl) (hd : (dx, dy) ∈ dirs) (hn : (n : Int) = 49 + G.bh * G.bw) : ∀ (m : Nat) (going : List Nat) (i : Nat), lotS G sl dx dy m going i c → 0 ≤ c ∧ c < (n : Int)
  | 0, _, _, h => h.elim
  | m + 1, going, i, h => by
    cases e : going[i]? with
    | none =>
      rw [lotS, e] at h
      exact h.elim
    | some s =>
      cases hj : joinF G sl dx dy going s with
      | none =>
        rw [lotS_none e hj] at h
        exact joinS_lt o sa hd hn h
      | some j =>
        rw [lotS_some e hj] at h
        rcases h with h | h
        · exact joinS_lt o sa hd hn h
        · exact lotS_lt o sa hd hn m _ _ h
theorem restS_lt {G : Gm} {sl : List (Option Tg)} {c : Int} {s n : Nat} (o : G.ok) (sa : SlAll G sl) (hn : (n : Int) = 49 + G.bh * G.bw) (h : restS G sl s c) : 0 ≤ c ∧ c < (n : Int) := joinS_lt o sa (by decide) hn h.2
section
end
end K22
set_option maxRecDepth 100000
set_option maxHeartbeats 4000000
/-! The law of meeting. -/
namespace K22
open PySem PySem.Spec PyProof.Rows L2 KF KD KP
section
variable {P : Program} {w : World} {K : PySem.W.Frag} {mg : Str → Option Value} {base : Heap}
def spLme (K : PySem.W.Frag) : Sp := fun vs H Q _ => ∃ (d : Addr) (g : V) (wa wt ea eld kd : Addr) (G : Gm) (sl : List (Option Tg)) (wv : List V) (wd : List PyData) (p : Int → Prop), vs = [.ref d, g, .ref wa, .ref wt, .ref ea, .ref kd] ∧ LSt K H d g wa wt ea eld kd G sl wv wd p ∧ (∀ c, p c → 0 ≤ c ∧ c < (wv.length : Int)) ∧ ∀ (q : Int → Prop) H', F3 d eld kd H H' → LSt K H' d g wa wt ea eld kd G sl wv wd q → (∀ c, q c → 0 ≤ c ∧ c < (wv.length : Int)) → Q (.bl true) H'
theorem scLme2 : FnScope ["pot", "game", "w", "world", "eyes", "known", "wide", "high", "x", "y", "box", "things", "own_high", "mask", "but", "seen", "due", "looks", "thing", "slot"] ["pot", "game", "w", "world", "eyes", "known"] (defScope s_law_meeting) := ⟨rfl, rfl, rfl, by decide +kernel, rfl, by decide +kernel, by decide +kernel⟩
theorem ok_law_meeting (T : Txt K w mg) : FnOk P w K mg base CX0 10 (He.fAd K ("_law_meeting", none)) (fdAt K (He.fAd K ("_law_meeting", none))) ["pot", "game", "w", "world", "eyes", "known"] (spLme K) := by
  refine T.F_law_meeting.ok scLme2 (fun vs H Q E h => ?_) (fun cdv A outer s H vs Q E hr h => ?_)
  · obtain ⟨d, g, wa, wt, ea, eld, kd, G, sl, wv, wd, p, rfl, _⟩ := h
    rfl
  · obtain ⟨d, g, wa, wt, ea, eld, kd, G, sl, wv, wd, p, rfl, st, hb0, k⟩ := h
    refine ⟨_, PSs.nox (pss_cons (ps_asg (pe_call (ok_law_size T) (hr.mono (by first | decide | omega)) (by rfl) T.g_law_size (T.F_law_size).kp T.b_law_size .nil pass0 (pa_cons (pv 1) pa_nil)) (pg_tup (by rfl) (pgs_cons (pg_name (i := 6) scLme2.nd rfl (Or.inl rfl)) (pgs_cons (pg_name (i := 7) scLme2.nd rfl (Or.inl rfl)) pgs_nil))))
      (pss_cons (ps_par (i := 8) (j := 9) (by rfl) scLme2.nd rfl rfl (by decide) rfl rfl (pa_cons (pe_op op_sub (pe_call (ok_law_take T) (hr.mono (by first | decide | omega)) (by rfl) T.g_law_take (T.F_law_take).kp T.b_law_take .nil pass0 (pa_cons (pv 0) (pa_cons (pe_op op_add (pv 6) pe_int) pa_nil))) pe_int) (pa_cons (pe_op op_sub (pe_call (ok_law_take T) (hr.mono (by first | decide | omega)) (by rfl) T.g_law_take (T.F_law_take).kp T.b_law_take .nil pass0 (pa_cons (pv 0) (pa_cons (pe_op op_add (pv 7) pe_int) pa_nil))) pe_int) pa_nil)) (by rfl))
      (pss_cons (ps_if (pt_cmpR op_eq (pe_call (ok_law_take T) (hr.mono (by first | decide | omega)) (by rfl) T.g_law_take (T.F_law_take).kp T.b_law_take .nil pass0 (pa_cons (pv 0) (pa_cons pe_int pa_nil))) pe_int (nomark _)) (pss_one (ps_set (i := 9) scLme2.nd rfl (Or.inl rfl) (pe_op op_add (pv 7) (pe_call (ok_law_take T) (hr.mono (by first | decide | omega)) (by rfl) T.g_law_take (T.F_law_take).kp T.b_law_take .nil pass0 (pa_cons (pv 0) (pa_cons pe_int pa_nil)))))) pss_nil)
      (pss_cons (ps_set (i := 10) scLme2.nd rfl (Or.inl rfl) (pe_tup (pa_cons (pv 8) (pa_cons (pv 9) (pa_cons (pe_op op_add pe_int (pe_call (ok_law_take T) (hr.mono (by first | decide | omega)) (by rfl) T.g_law_take (T.F_law_take).kp T.b_law_take .nil pass0 (pa_cons (pv 0) (pa_cons pe_int pa_nil)))) (pa_cons (pe_op op_add pe_int (pe_call (ok_law_take T) (hr.mono (by first | decide | omega)) (by rfl) T.g_law_take (T.F_law_take).kp T.b_law_take .nil pass0 (pa_cons (pv 0) (pa_cons pe_int pa_nil)))) pa_nil))))))
      (pss_cons (ps_setLc (i := 11) (own := [("thing", 18)]) (g := gName 18) (by rfl) scLme2.nd rfl rfl (sw_true rfl rfl rfl (by decide +kernel)) (pi_list (pe_slice sl_list (pv 2) po_none (po_some pe_int))) (blkOk_by (own := [("thing", 18)]) (N := ["pot", "game", "w", "world", "eyes", "known", "wide", "high", "x", "y", "box", "things", "own_high", "mask", "but", "seen", "due", "looks", "thing", "slot"]) (sc := defScope s_law_meeting) (by decide +kernel)) (fun _ _ _ _ _ => pg_name (i := 18) scLme2.nd rfl (Or.inl rfl)) (fun _ _ _ _ _ => pts_one (pt_cmpR op_notN (pv 18) pe_non (nomark _))) (fun _ _ _ _ _ => (pv 18)))
      (pss_cons (ps_if (PW.pt (pw_and (pt_cmpR (r := rNeNil K false) (op_neNil hr.units) (pv 11) (pe_lst pa_nil) (nomark _)) (pw_and1 (pt_cmpR op_gt (pe_call (ok_law_take T) (hr.mono (by first | decide | omega)) (by rfl) T.g_law_take (T.F_law_take).kp T.b_law_take .nil pass0 (pa_cons (pv 0) (pa_cons pe_int pa_nil))) pe_int (nomark _))))) (pss_cons (ps_asg (pe_call (ok_law_box T) (hr.mono (by first | decide | omega)) (by rfl) T.g_law_box (T.F_law_box).kp T.b_law_box .nil pass0 (pa_cons (pv 1) (pa_cons (pe_ix (r := rIxL K) ix_list (pv 11) (pe_call (ok_law_take T) (hr.mono (by first | decide | omega)) (by rfl) T.g_law_take (T.F_law_take).kp T.b_law_take .nil pass0 (pa_cons (pv 0) (pa_cons (pe_callB (r := Evl.rLenS K) call_len_seq (by rfl) T.n_len PyProof.Rows.Boot.«len» (pa_cons (pv 11) pa_nil)) pa_nil))) (fun _ _ => rfl)) pa_nil))) (pg_tup (by rfl) (pgs_cons (pg_name (i := 8) scLme2.nd rfl (Or.inl rfl)) (pgs_cons (pg_name (i := 9) scLme2.nd rfl (Or.inl rfl)) (pgs_cons (pg_name (i := 6) scLme2.nd rfl (Or.inl rfl)) (pgs_cons (pg_name (i := 12) scLme2.nd rfl (Or.inl rfl)) pgs_nil))))))
      (pss_one (ps_set (i := 10) scLme2.nd rfl (Or.inl rfl) (pe_tup (pa_cons (pe_op op_sub (pe_op op_add (pv 8) (pe_call (ok_law_take T) (hr.mono (by first | decide | omega)) (by rfl) T.g_law_take (T.F_law_take).kp T.b_law_take .nil pass0 (pa_cons (pv 0) (pa_cons pe_int pa_nil)))) pe_int) (pa_cons (pe_op op_sub (pe_op op_add (pv 9) (pe_call (ok_law_take T) (hr.mono (by first | decide | omega)) (by rfl) T.g_law_take (T.F_law_take).kp T.b_law_take .nil pass0 (pa_cons (pv 0) (pa_cons pe_int pa_nil)))) pe_int) (pa_cons (pv 6) (pa_cons (pv 12) pa_nil)))))))) pss_nil)
      (pss_cons (ps_set (i := 13) scLme2.nd rfl (Or.inr rfl) (pe_op op_mulW (pe_call (ok_law_take T) (hr.mono (by first | decide | omega)) (by rfl) T.g_law_take (T.F_law_take).kp T.b_law_take .nil pass0 (pa_cons (pv 0) (pa_cons pe_int pa_nil))) (pe_call (ok_law_take T) (hr.mono (by first | decide | omega)) (by rfl) T.g_law_take (T.F_law_take).kp T.b_law_take .nil pass0 (pa_cons (pv 0) (pa_cons pe_int pa_nil)))))
      (pss_cons (ps_set (i := 14) scLme2.nd rfl (Or.inl rfl) (pe_callTy call_tuple_of (by rfl) T.n_tuple PyProof.Rows.Boot.«tuple» (pa_cons (pe_lc (own := [("slot", 19)]) (g := gName 19) (by rfl) scLme2.nd (pi_range1 (by rfl) T.n_range (pa_cons pe_int pa_nil)) (blkOk_by (own := [("slot", 19)]) (N := ["pot", "game", "w", "world", "eyes", "known", "wide", "high", "x", "y", "box", "things", "own_high", "mask", "but", "seen", "due", "looks", "thing", "slot"]) (sc := defScope s_law_meeting) (by decide +kernel)) (fun _ _ _ _ _ => pg_name (i := 19) scLme2.nd rfl (Or.inl rfl)) (fun _ _ _ _ _ => pts_one (pt_cmpR op_eq (pe_op op_and (pe_op op_shr (pv 13) (pv 19)) pe_int) pe_int (nomark _))) (fun _ _ _ _ _ => (pv 19))) pa_nil)))
      (pss_cons (ps_set (i := 15) scLme2.nd rfl (Or.inl rfl) pe_dnewK)
      (pss_cons (ps_set (i := 16) scLme2.nd rfl (Or.inl rfl) (pe_callTy call_tuple_of (by rfl) T.n_tuple PyProof.Rows.Boot.«tuple» (pa_cons (pe_call (ok_law_look T) (hr.mono (by first | decide | omega)) (by rfl) T.g_law_look (T.F_law_look).kp T.b_law_look .nil pass0 (pa_cons (pv 1) (pa_cons (pv 2) (pa_cons (pv 15) (pa_cons (pv 10) (pa_cons (pv 14) pa_nil)))))) pa_nil)))
      (pss_cons (ps_set (i := 17) scLme2.nd rfl (Or.inl rfl) (pe_make T.m_Looks (ok_Looks_init T) (hr.mono (by decide)) (by rfl) T.g_Looks T.b_Looks_init .nil pass0 (pa_cons (pv 3) pa_nil)))
      (pss_cons (ps_if (pt_not (pt_val (pe_call (ok_law_same T 5) (hr.mono (by first | decide | omega)) (by rfl) T.g_law_same (T.F_law_same).kp T.b_law_same .nil pass0 (pa_cons (pe_call (ok_meeting T) (hr.mono (by first | decide | omega)) (by rfl) T.g_meeting (T.F_meeting).kp T.b_meeting .nil pass0 (pa_cons (pv 1) (pa_cons (pv 17) (pa_cons (pv 10) (pa_cons (pv 14) pa_nil))))) (pa_cons (pv 16) pa_nil))))) (pss_one (ps_ret pe_bl)) pss_nil)
      (pss_cons (ps_expr (pe_bm PySem.F.plainAttrs_dict PySem.F.slot_dict_update PySem.F.type_dict_update KU.mt_update (pv 5) (pa_cons (pv 15) pa_nil)))
      (pss_cons (ps_if (pt_not (pt_val (pe_call (ok_law_same T 5) (hr.mono (by first | decide | omega)) (by rfl) T.g_law_same (T.F_law_same).kp T.b_law_same .nil pass0 (pa_cons (pe_call (ok_meeting T) (hr.mono (by first | decide | omega)) (by rfl) T.g_meeting (T.F_meeting).kp T.b_meeting .nil pass0 (pa_cons (pv 1) (pa_cons (pv 4) (pa_cons (pv 10) (pa_cons (pv 14) pa_nil))))) (pa_cons (pv 16) pa_nil))))) (pss_one (ps_ret pe_bl)) pss_nil)
      (pss_cons (ps_if (pt_cmpR op_eq (pe_call (ok_law_take T) (hr.mono (by first | decide | omega)) (by rfl) T.g_law_take (T.F_law_take).kp T.b_law_take .nil pass0 (pa_cons (pv 0) (pa_cons pe_int pa_nil))) pe_int (nomark _)) (pss_cons (ps_set (i := 16) scLme2.nd rfl (Or.inl rfl) (pe_callTy call_tuple_of (by rfl) T.n_tuple PyProof.Rows.Boot.«tuple» (pa_cons (pe_call (ok_law_look T) (hr.mono (by first | decide | omega)) (by rfl) T.g_law_look (T.F_law_look).kp T.b_law_look .nil pass0 (pa_cons (pv 1) (pa_cons (pv 2) (pa_cons (pv 5) (pa_cons (pv 10) (pa_cons (pe_tup pa_nil) pa_nil)))))) pa_nil)))
      (pss_one (ps_if (pt_not (pt_val (pe_call (ok_law_same T 5) (hr.mono (by first | decide | omega)) (by rfl) T.g_law_same (T.F_law_same).kp T.b_law_same .nil pass0 (pa_cons (pe_call (ok_meeting T) (hr.mono (by decide)) (by rfl) T.g_meeting (T.F_meeting).kp T.b_meeting .nil pass0 (pa_cons (pv 1) (pa_cons (pv 4) (pa_cons (pv 10) (pa_cons (pe_tup pa_nil) pa_nil))))) (pa_cons (pv 16) pa_nil))))) (pss_one (ps_ret pe_bl)) pss_nil))) pss_nil)
      (pss_one (ps_ret (pe_call (ok_law_same T 5) (hr.mono (by first | decide | omega)) (by rfl) T.g_law_same (T.F_law_same).kp T.b_law_same .nil pass0 (pa_cons (pe_meth0 (pv 17) T.k_Looks T.e_Looks_seen (ok_Looks_seen T) (hr.mono (by decide)) T.b_Looks_seen .nil pass0) (pa_cons (pe_call (ok_law_seen T) (hr.mono (by first | decide | omega)) (by rfl) T.g_law_seen (T.F_law_seen).kp T.b_law_seen .nil pass0 (pa_cons (pv 3) (pa_cons (pv 15) pa_nil))) pa_nil)))))))))))))))))))), ?_⟩
    have hhi := hi_le st.ok
    have hwi : 8 ≤ G.wi ∧ G.wi ≤ 240 := by
      have h1 : G.wi = 8 * (G.W : Int) := rfl
      have := st.ok.w1
      have := st.ok.w2
      omega
    refine ⟨_, rfl, g, G, rfl, st.gm, st.ok, fun ps H1 s1 hps => ⟨ps, _, rfl, SqT.of hps, rfl, _, _, rfl, _, _, rfl, rfl, ?_⟩⟩
    have st1 := st.same s1
    have f1 : F3 d eld kd H H1 := F3.s s1
    refine seq_cut (fun σ' H' => σ' = [some (.ref d), some g, some (.ref wa), some (.ref wt), some (.ref ea), some (.ref kd), some (.int G.wi), some (.int G.hi), none, none, none, none, none, none, none, none, none, none, none, none] ∧ H1 = H') (fun σ' H' hq => ?_) (fun R hR => hR _ _ ⟨rfl, rfl⟩)
    obtain ⟨rfl, rfl⟩ := hq
    refine seq_cut (fun σ' H' => ∃ x y : Int, σ' = [some (.ref d), some g, some (.ref wa), some (.ref wt), some (.ref ea), some (.ref kd), some (.int G.wi), some (.int G.hi), some (.int x), some (.int y), none, none, none, none, none, none, none, none, none, none] ∧ -16 ≤ x ∧ x ≤ 300 ∧ -16 ≤ y ∧ y ≤ 300 ∧ LSt K H' d g wa wt ea eld kd G sl wv wd p ∧ F3 d eld kd H H') (fun σ' H2 hP => ?_) (fun R hR => ?_)
    rotate_left
    · refine ⟨_, rfl, _, rfl, _, _, rfl, rfl, d, _, rfl, by omega, by omega, st1.pot, fun x H2 x0 x1 f2 d2 => ⟨_, _, rfl, rfl, ?_⟩⟩
      have st2 := st1.take f2 d2
      refine ⟨_, rfl, _, rfl, _, _, rfl, rfl, d, _, rfl, by omega, by omega, d2, fun y H3 y0 y1 f3 d3 => ⟨_, _, rfl, rfl, _, _, rfl, ?_⟩⟩
      exact hR _ _ ⟨x - 16, y - 16, rfl, by omega, by omega, by omega, by omega, st2.take f3 d3, (f1.trans (F3.a f2)).trans (F3.a f3)⟩
    obtain ⟨x, y, rfl, a1, a2, a3, a4, st2, f2⟩ := hP
    clear st1 f1
    refine seq_cut (fun σ' H' => ∃ y : Int, σ' = [some (.ref d), some g, some (.ref wa), some (.ref wt), some (.ref ea), some (.ref kd), some (.int G.wi), some (.int G.hi), some (.int x), some (.int y), none, none, none, none, none, none, none, none, none, none] ∧ -16 ≤ y ∧ y ≤ 300 ∧ LSt K H' d g wa wt ea eld kd G sl wv wd p ∧ F3 d eld kd H H') (fun σ' H3 hP => ?_) (fun R hR => ?_)
    rotate_left
    · refine ⟨_, rfl, d, 5, rfl, by decide, by decide, st2.pot, fun z H3 _ _ f3 d3 => ⟨rfl, _, rfl, ite2 (fun _ => ?_) (fun _ => ?_)⟩⟩
      · refine ⟨_, rfl, _, rfl, d, 40, rfl, by decide, by decide, d3, fun u H4 u0 u1 f4 d4 => ⟨_, _, rfl, rfl, hR _ _ ⟨_, rfl, by omega, by omega, (st2.take f3 d3).take f4 d4, (f2.trans (F3.a f3)).trans (F3.a f4)⟩⟩⟩
      · exact hR _ _ ⟨y, rfl, a3, a4, st2.take f3 d3, f2.trans (F3.a f3)⟩
    clear a3 a4 st2 f2
    obtain ⟨y, rfl, a3, a4, st2, f2⟩ := hP
    refine seq_cut (fun σ' H' => ∃ (pb : Addr) (b : Bx), σ' = [some (.ref d), some g, some (.ref wa), some (.ref wt), some (.ref ea), some (.ref kd), some (.int G.wi), some (.int G.hi), some (.int x), some (.int y), some (.ref pb), none, none, none, none, none, none, none, none, none] ∧ b.lim ∧ SqT K H' pb b.vs ∧ LSt K H' d g wa wt ea eld kd G sl wv wd p ∧ F3 d eld kd H H') (fun σ' H4 hP => ?_) (fun R hR => ?_)
    rotate_left
    · refine ⟨_, rfl, _, rfl, _, rfl, d, 20, rfl, by decide, by decide, st2.pot, fun u H4 u0 u1 f4 d4 => ⟨_, _, rfl, rfl, _, rfl, d, 20, rfl, by decide, by decide, d4, fun v H5 v0 v1 f5 d5 => ⟨_, _, rfl, rfl, (show 4 ≤ sizeLine by decide), fun pb npb => ?_⟩⟩⟩
      have sb := new_same (o := .tup [V.int x, .int y, .int (1 + u), .int (1 + v)]) npb
      exact hR _ _ ⟨pb, ⟨x, y, 1 + u, 1 + v⟩, rfl, lim_box (by show -5000 ≤ x; omega) (by show x ≤ 5000; omega) (by show -5000 ≤ y; omega) (by show y ≤ 5000; omega) (by show 1 ≤ 1 + u; omega) (by show 1 + u ≤ 20; omega) (by show 1 ≤ 1 + v; omega) (by show 1 + v ≤ 20; omega), SqT.of upd_same, ((st2.take f4 d4).take f5 d5).same sb, ((f2.trans (F3.a f4)).trans (F3.a f5)).trans (F3.s sb)⟩
    clear st2 f2
    obtain ⟨pb, b, rfl, lim, hpb, st2, f2⟩ := hP
    obtain ⟨wlv, hwl, wll, hwx, hwd⟩ := id st2.ws
    have ecut : cutV wlv none (some 16) = wlv.take 16 := cutV_take (n := 16) (by omega)
    refine ⟨_, rfl, _, rfl, wa, wlv, rfl, SqL.of hwl, fun p2 np2 => ?_⟩
    rw [ecut]
    have sp := new_same (o := .lst (wlv.take 16)) np2
    have l16 : (wlv.take 16).length = 16 := by rw [List.length_take]; omega
    have hp2 : (upd H4 p2 (.lst (wlv.take 16))) p2 = some (.lst (wlv.take 16)) := upd_same
    refine ⟨p2, rfl, ⟨_, SqL.of hp2⟩, fun D hD => ?_⟩
    obtain ⟨H5, hH5⟩ : ∃ H5, H5 = upd H4 p2 (.lst (wlv.take 16)) := ⟨_, rfl⟩
    rw [← hH5] at sp hp2 hD ⊢
    refine lc_it (walk_list (K := K) (a := p2) (xs := wlv.take 16)) (fun i H' => ∃ acc : List V, Same H5 H' ∧ H' D = some (.lst acc) ∧ acc.length ≤ i ∧ ThsAt K H4 G acc ∧ DL K H4 acc) ⟨[], new_same hD, upd_same, Nat.le_refl _, fun _ m => (List.not_mem_nil m).elim, fun _ m => (List.not_mem_nil m).elim⟩ (fun i H' _ h => by obtain ⟨_, s, _⟩ := h; exact SqL.of (s _ _ hp2)) (fun i v H' Hx hi h yy => ?_) (fun H' h => ?_)
    · obtain ⟨rfl, hv⟩ := yy
      obtain ⟨acc, sm, hl, al, hth, hdl⟩ := h
      rw [List.getElem?_take, if_pos (by omega)] at hv
      refine ⟨rfl, ?_⟩
      obtain ⟨so, hso⟩ : ∃ so, sl[i]? = some so := ⟨_, List.getElem?_eq_getElem (by rw [st.sa.len]; omega)⟩
      obtain ⟨v', hv1, hv2⟩ := hwx i so hso
      rw [hv] at hv1
      injection hv1 with hv1
      subst hv1
      have hv2 := hv2.at'
      refine ⟨_, rfl, rfl, _, rfl, ?_⟩
      cases so with
      | none =>
        obtain rfl : v = .non := hv2
        exact iteF ⟨acc, sm, hl, by omega, hth, hdl⟩
      | some t =>
        have hv2 : TgAt K H4 v t := hv2
        obtain ⟨kd2, hkd2, _⟩ := (st.sa.ok t (List.mem_of_getElem? hso)).kd
        obtain ⟨tad, ow2, rfl, _⟩ := id hv2
        refine iteT ⟨_, rfl, acc, hl, Nat.lt_of_le_of_lt (show acc.length ≤ 24 by omega) (by decide), acc ++ [_], fun c o z => ?_, upd_same, by rw [List.length_append]; simp only [List.length_cons, List.length_nil]; omega, fun u m => ?_, fun u m => ?_⟩
        · rw [upd_ne (ne_of_none z hD)]
          exact sm _ _ z
        · rcases List.mem_append.mp m with m | m
          · exact hth u m
          · rw [List.mem_singleton.mp m]
            exact ⟨t, kd2, hv2, hkd2, st.sa.ok t (List.mem_of_getElem? hso)⟩
        · rcases List.mem_append.mp m with m | m
          · exact hdl u m
          · rw [List.mem_singleton.mp m]
            exact hwd _ (List.mem_of_getElem? hv)
    obtain ⟨acc, sm, hl, al, hth, hdl⟩ := h
    have S6 := sp.trans sm
    have st6 := st2.same S6
    have f6 := f2.trans (F3.s S6)
    have acl : acc.length ≤ 16 := by omega
    refine seq_cut (fun σ' H'' => σ' = [some (.ref d), some g, some (.ref wa), some (.ref wt), some (.ref ea), some (.ref kd), some (.int G.wi), some (.int G.hi), some (.int x), some (.int y), some (.ref pb), some (.ref D), none, none, none, none, none, none, none, none] ∧ H' = H'') (fun σ' H'' hq => ?_) (fun R hR => hR _ _ ⟨rfl, rfl⟩)
    obtain ⟨rfl, rfl⟩ := hq
    refine seq_cut (fun σ' H' => ∃ (pb : Addr) (b : Bx) (v6 v8 v9 v12 : Option V), σ' = [some (.ref d), some g, some (.ref wa), some (.ref wt), some (.ref ea), some (.ref kd), v6, some (.int G.hi), v8, v9, some (.ref pb), some (.ref D), v12, none, none, none, none, none, none, none] ∧ b.lim ∧ SqT K H' pb b.vs ∧ LSt K H' d g wa wt ea eld kd G sl wv wd p ∧ F3 d eld kd H H') (fun σ' H7 hP => ?_) (fun R hR => ?_)
    rotate_left
    · refine ⟨_, rfl, (show 0 ≤ sizeLine by decide), fun e ne => ?_⟩
      have se := new_same (o := .lst []) ne
      have ste := st6.same se
      have fe := f6.trans (F3.s se)
      have hpbe := (same_tf (S6.trans se)).sq hpb
      have hlE := se _ _ hl
      have Dd : D ≠ d := (st2.pot.same sp).ne hD
      refine ne_nil hlE upd_same (DL.tf hdl (same_tf (S6.trans se))) ⟨_, rfl, ite2 (fun z2 => ?_) (fun _ => iteF (hR _ _ ⟨pb, b, _, _, _, _, rfl, lim, hpbe, ste, fe⟩))⟩
      have l1 : 1 ≤ acc.length := by
        cases acc with
        | nil => cases z2
        | cons _ _ => exact Nat.succ_le_succ (Nat.zero_le _)
      refine ⟨_, rfl, d, 3, rfl, by decide, by decide, ste.pot, fun z H8 _ _ f8 d8 => ⟨_, _, rfl, rfl, _, rfl, ite2 (fun _ => ?_) (fun _ => hR _ _ ⟨pb, b, _, _, _, _, rfl, lim, (pot_tf f8 ste.pot).sq hpbe, ste.take f8 d8, fe.trans (F3.a f8)⟩)⟩⟩
      have st8 := ste.take f8 d8
      have fx8 := fe.trans (F3.a f8)
      have hl8 := f8 _ _ Dd hlE
      refine ⟨_, rfl, _, rfl, _, rfl, _, rfl, D, _, rfl, .inl (SqL.of hl8), d, _, rfl, by omega, by omega, d8, fun ja H9 j0 j1 f9 d9 => ?_⟩
      obtain ⟨j, rfl⟩ := Int.eq_ofNat_of_zero_le j0
      have st9 := st8.take f9 d9
      have hl9 := f9 _ _ Dd hl8
      have hj : j < acc.length := by omega
      obtain ⟨u, hu⟩ : ∃ u, acc[j]? = some u := ⟨_, List.getElem?_eq_getElem hj⟩
      obtain ⟨t, kd2, ht2, hkd2, tok⟩ := hth u (List.mem_of_getElem? hu)
      obtain ⟨k2w1, k2w2, k2h1, k2h2, _⟩ := st.ok.kw kd2 (List.mem_of_getElem? hkd2)
      have tx1 := tok.x1
      have tx2 := tok.x2
      have ty1 := tok.y1
      have ty2 := tok.y2
      have tf9 := (same_tf (S6.trans se)).trans ((pot_tf f8 ste.pot).trans (pot_tf f9 d8))
      refine ⟨D, acc, _, _, rfl, rfl, SqL.of hl9, atI_nat hu, g, u, G, t, kd2, rfl, st9.gm, TgAt.tf ht2 tf9, hkd2, fun pq H10 s10 hpq => ⟨pq, _, rfl, SqT.of hpq, rfl, _, _, rfl, _, _, rfl, _, _, rfl, _, _, rfl, rfl, ?_⟩⟩
      have st10 := st9.same s10
      refine ⟨_, rfl, _, rfl, d, 3, rfl, by decide, by decide, st10.pot, fun m H11 m0 m1 f11 d11 => ⟨_, _, rfl, rfl, _, _, rfl, rfl, ?_⟩⟩
      refine ⟨_, rfl, _, rfl, d, 3, rfl, by decide, by decide, d11, fun n H12 n0 n1 f12 d12 => ⟨_, _, rfl, rfl, _, _, rfl, rfl, _, rfl, _, rfl, (show 4 ≤ sizeLine by decide), fun pb2 npb2 => ?_⟩⟩
      have sb := new_same (o := .tup [V.int ((t.box kd2).x + m - 1), .int ((t.box kd2).y + n - 1), .int (t.box kd2).w, .int (t.box kd2).h]) npb2
      have bxx : (t.box kd2).x = t.x := rfl
      have bxy : (t.box kd2).y = t.y := rfl
      have bxw : (t.box kd2).w = kd2.w := rfl
      have bxh : (t.box kd2).h = kd2.h := rfl
      refine hR _ _ ⟨pb2, ⟨(t.box kd2).x + m - 1, (t.box kd2).y + n - 1, (t.box kd2).w, (t.box kd2).h⟩, _, _, _, _, rfl, lim_box (by dsimp only; omega) (by dsimp only; omega) (by dsimp only; omega) (by dsimp only; omega) (by dsimp only; omega) (by dsimp only; omega) (by dsimp only; omega) (by dsimp only; omega), SqT.of upd_same, ((st10.take f11 d11).take f12 d12).same sb, ((((fx8.trans (F3.a f9)).trans (F3.s s10)).trans (F3.a f11)).trans (F3.a f12)).trans (F3.s sb)⟩
    clear st2 f2 hpb
    obtain ⟨pb, b, v6, v8, v9, v12, rfl, lim, hpb, st7, f7⟩ := hP
    refine seq_cut (fun σ' H' => ∃ mk : Int, σ' = [some (.ref d), some g, some (.ref wa), some (.ref wt), some (.ref ea), some (.ref kd), v6, some (.int G.hi), v8, v9, some (.ref pb), some (.ref D), v12, some (.int mk), none, none, none, none, none, none] ∧ SqT K H' pb b.vs ∧ LSt K H' d g wa wt ea eld kd G sl wv wd p ∧ F3 d eld kd H H') (fun σ' H8 hP => ?_) (fun R hR => ?_)
    rotate_left
    · refine ⟨_, rfl, d, 65536, rfl, by decide, by decide, st7.pot, fun a H8 a0 a1 f8 d8 => ⟨_, rfl, d, 2, rfl, by decide, by decide, d8, fun c H9 c0 c1 f9 d9 => ⟨_, _, rfl, rfl, wide_mul (a := 40) (b := 40) (small_ab a0 (by omega)) (small_ab c0 (by omega)) (by decide) (by decide) (by decide), ?_⟩⟩⟩
      exact hR _ _ ⟨_, rfl, (pot_tf f9 d8).sq ((pot_tf f8 st7.pot).sq hpb), (st7.take f8 d8).take f9 d9, (f7.trans (F3.a f8)).trans (F3.a f9)⟩
    clear hpb st7 f7
    obtain ⟨mk, rfl, hpb, st8, f8⟩ := hP
    refine seq_cut (fun σ' H' => ∃ (bu : Addr) (but : List Nat), σ' = [some (.ref d), some g, some (.ref wa), some (.ref wt), some (.ref ea), some (.ref kd), v6, some (.int G.hi), v8, v9, some (.ref pb), some (.ref D), v12, some (.int mk), some (.ref bu), none, none, none, none, none] ∧ SqT K H' bu (nV but) ∧ SqT K H' pb b.vs ∧ LSt K H' d g wa wt ea eld kd G sl wv wd p ∧ F3 d eld kd H H') (fun σ' H9 hP => ?_) (fun R hR => ?_)
    rotate_left
    · refine ⟨_, rfl, by decide, by decide, fun D2 hD2 => ?_⟩
      refine lc_it (walk_r0 (n := 16)) (fun j H5 => ∃ us : List Nat, Same H8 H5 ∧ H5 D2 = some (.lst (nV us)) ∧ us.length ≤ j) ⟨[], new_same hD2, upd_same, Nat.le_refl _⟩ (fun _ _ _ _ => trivial) (fun j v H5 Hz hj h yy => ?_) (fun H5 h => ?_)
      · obtain ⟨rfl, rfl⟩ := yy
        obtain ⟨us, sm, hl, al⟩ := h
        refine ⟨rfl, _, rfl, _, rfl, _, _, rfl, rfl, Int.natCast_nonneg j, _, _, rfl, rfl, rfl, _, rfl, ite2 (fun _ => ?_) (fun _ => ⟨us, sm, hl, by omega⟩)⟩
        refine ⟨_, rfl, _, hl, Nat.lt_of_le_of_lt (show (nV us).length ≤ 24 by unfold nV; rw [List.length_map]; omega) (by decide), us ++ [j], fun c o z => ?_, by rw [upd_same]; unfold nV; rw [List.map_append]; rfl, by rw [List.length_append]; simp only [List.length_cons, List.length_nil]; omega⟩
        rw [upd_ne (ne_of_none z hD2)]
        exact sm _ _ z
      obtain ⟨us, sm, hl, al⟩ := h
      refine ⟨D2, _, rfl, .inl ⟨SqL.of hl, fun pz npz => ?_⟩⟩
      have sz := sm.trans (new_same (o := .tup (nV us)) npz)
      exact hR _ _ ⟨pz, us, rfl, SqT.of upd_same, (same_tf sz).sq hpb, st8.same sz, f8.trans (F3.s sz)⟩
    clear hpb st8 f8
    obtain ⟨bu, but, rfl, hbu, hpb, st9, f9⟩ := hP
    refine fun sd nsd => ?_
    have s10 := new_same (o := .dK []) nsd
    have st10 := st9.same s10
    have hk10 : (upd H9 sd (.dK [])) sd = some (.dK []) := upd_same
    have nle : sd ≠ eld := fun e => by
      obtain ⟨_, _, z⟩ := st9.ey
      obtain ⟨_, z⟩ := z.dict
      rw [e, z] at nsd
      cases nsd
    have nlk : sd ≠ kd := fun e => by
      obtain ⟨_, z⟩ := st9.kn.dict
      rw [e, z] at nsd
      cases nsd
    have sd0 : ∀ {b : Addr} {o : HO}, H9 b = some o → b ≠ sd := fun z e => by rw [e, nsd] at z; cases z
    have hpb10 := (same_tf s10).sq hpb
    have hbu10 := (same_tf s10).sq hbu
    refine ⟨_, rfl, _, rfl, _, rfl, _, rfl, _, rfl, g, .ref pb, .ref bu, wa, sd, G, sl, b, but, _, rfl, st10.gm, st10.ok, st10.sa, st10.ws.wl, kset_nil hk10, ⟨pb, rfl, hpb10⟩, lim, ⟨bu, rfl, fun H' f => .inr ((Frm.tfk f hk10).sq hbu10)⟩, fun q H11 f11 ks11 hq nq => ⟨q, _, rfl, .inl ⟨SqL.of hq, fun t nt => ?_⟩⟩⟩
    have tf11 := Frm.tfk f11 hk10
    have s12 := new_same (o := .tup (nV (lookL G sl b but))) nt
    have st12 := (st10.oth f11 hk10 nle nlk).same s12
    have ks12 := ks11.same s12
    have ht12 : SqT K (upd H11 t (.tup (nV (lookL G sl b but)))) t (nV (lookL G sl b but)) := SqT.of upd_same
    have hpb12 := (same_tf s12).sq (tf11.sq hpb10)
    have hbu12 := (same_tf s12).sq (tf11.sq hbu10)
    have f12 : F3 d eld kd H (upd H11 t (.tup (nV (lookL G sl b but)))) := f9.trans fun b o n1 n2 n3 z => s12 _ _ (f11 _ _ (sd0 z) (s10 _ _ z))
    obtain ⟨H12, hH12⟩ : ∃ H12, H12 = upd H11 t (.tup (nV (lookL G sl b but))) := ⟨_, rfl⟩
    show gName 16 _ _ (upd H11 t (.tup (nV (lookL G sl b but)))) _
    rw [← hH12] at st12 ks12 ht12 hpb12 hbu12 f12 ⊢
    clear st10 st9 hpb hbu f9 ks11
    obtain ⟨pS, hpS⟩ : ∃ pS, pS = seenP G sl b but fun _ => False := ⟨_, rfl⟩
    obtain ⟨L, hL⟩ : ∃ L, L = lookL G sl b but := ⟨_, rfl⟩
    rw [← hL] at ht12
    have Ll : L.length ≤ 16 := by rw [hL]; exact look_len _ _ _ _
    refine seq_cut (fun σ' H' => σ' = [some (.ref d), some g, some (.ref wa), some (.ref wt), some (.ref ea), some (.ref kd), v6, some (.int G.hi), v8, v9, some (.ref pb), some (.ref D), v12, some (.int mk), some (.ref bu), some (.ref sd), some (.ref t), none, none, none] ∧ H12 = H') (fun σ' H' hq => ?_) (fun R hR => hR _ _ ⟨rfl, rfl⟩)
    obtain ⟨rfl, rfl⟩ := hq
    refine seq_cut (fun σ' H' => ∃ (a ld : Addr), σ' = [some (.ref d), some g, some (.ref wa), some (.ref wt), some (.ref ea), some (.ref kd), v6, some (.int G.hi), v8, v9, some (.ref pb), some (.ref D), v12, some (.int mk), some (.ref bu), some (.ref sd), some (.ref t), some (.ref a), none, none] ∧ LkAt K H' a wt ld (fun _ => False) ∧ ld ≠ eld ∧ ld ≠ kd ∧ ld ≠ sd ∧ H ld = none ∧ Same H12 H' ∧ LSt K H' d g wa wt ea eld kd G sl wv wd p ∧ F3 d eld kd H H') (fun σ' H14 hP => ?_) (fun R hR => ?_)
    rotate_left
    · refine ⟨_, rfl, fun a dx na ndx nda => ⟨a, dx, wt, rfl, upd_same, fun H14 ld lk14 fa nld => ⟨rfl, ?_⟩⟩⟩
      have sL := new_looks na ndx fa
      have nl12 := none_looks nld
      exact hR _ _ ⟨a, ld, rfl, lk14, nkey nl12 st12.ey.choose_spec.2, nkey nl12 st12.kn, nkey nl12 ks12, st12.n0 f12 nl12, sL, st12.same sL, f12.trans (F3.s sL)⟩
    obtain ⟨a, ld, rfl, lk14, nl1, nl2, nls, nl0, sL, st14, f14⟩ := hP
    have ks14 := ks12.same sL
    rw [← hpS] at ks14
    have ht14 := (same_tf sL).sq ht12
    have hpb14 := (same_tf sL).sq hpb12
    have hbu14 := (same_tf sL).sq hbu12
    clear st12 ks12 ht12 hpb12 hbu12 f12
    refine seq_cut (fun σ' H' => σ' = [some (.ref d), some g, some (.ref wa), some (.ref wt), some (.ref ea), some (.ref kd), v6, some (.int G.hi), v8, v9, some (.ref pb), some (.ref D), v12, some (.int mk), some (.ref bu), some (.ref sd), some (.ref t), some (.ref a), none, none] ∧ LkAt K H' a wt ld pS ∧ KSet H' sd pS ∧ SqT K H' t (nV L) ∧ SqT K H' pb b.vs ∧ SqT K H' bu (nV but) ∧ LSt K H' d g wa wt ea eld kd G sl wv wd p ∧ F3 d eld kd H H') (fun σ' H16 hP => ?_) (fun R hR => ?_)
    rotate_left
    · refine ⟨_, rfl, _, rfl, _, rfl, _, rfl, g, .ref pb, a, wt, ld, bu, wv, G, sl, b, but, _, rfl, st14.gm, st14.ok, st14.sa, lk14, st14.wtt, ⟨pb, rfl, hpb14⟩, lim, hbu14, fun t2 H15 f15 lk15 ht2 => ⟨_, rfl, .ref t2, .ref t, bkD L, rfl, bkD_dp (by rw [hL]; exact ht2), bkD_dp ((lk14.tf f15).sq ht14), bkD4 _ Ll, fun H16 s16 => ⟨true, rfl, iteF ?_⟩⟩⟩
      have tf15 := lk14.tf f15
      obtain ⟨kvl, hkl⟩ := lk14.choose_spec.2.dict
      have st15 := st14.oth f15 hkl nl1 nl2
      rw [← hpS] at lk15
      exact hR _ _ ⟨rfl, lk15.same s16, (ks14.frm f15 (Ne.symm nls)).same s16, (same_tf s16).sq (tf15.sq ht14), (same_tf s16).sq (tf15.sq hpb14), (same_tf s16).sq (tf15.sq hbu14), st15.same s16, fun b o n1 n2 n3 z => s16 _ _ (f15 _ _ (ne_of_none z nl0) (f14 _ _ n1 n2 n3 z))⟩
    clear st14 ks14 ht14 hpb14 hbu14 f14 lk14
    obtain ⟨rfl, lkS, ksS, htS, hpbS, hbuS, stS, fS⟩ := hP
    obtain ⟨kvk, hkk⟩ := stS.kn.dict
    obtain ⟨kvs, hks⟩ := ksS.dict
    have lenk := stS.kn.len hkk
    have lens := ksS.len hks
    refine seq_cut (fun σ' H' => σ' = [some (.ref d), some g, some (.ref wa), some (.ref wt), some (.ref ea), some (.ref kd), v6, some (.int G.hi), v8, v9, some (.ref pb), some (.ref D), v12, some (.int mk), some (.ref bu), some (.ref sd), some (.ref t), some (.ref a), none, none] ∧ H' = upd H16 kd (.dK (KU.mergeV kvk kvs))) (fun σ' H17 hP => ?_) (fun R hR => ?_)
    rotate_left
    · exact ⟨_, rfl, .inr (.inr (.inl ⟨rfl, .inl ⟨_, hkk⟩⟩)), _, rfl, kd, sd, kvk, kvs, rfl, rfl, hkk, hks, Ne.symm nlk, Nat.le_trans (show kvk.length + kvs.length ≤ 1000 by omega) (by decide), hR _ _ ⟨rfl, rfl⟩⟩
    obtain ⟨rfl, hH17⟩ := hP
    have fu : Frm kd H16 H17 := by rw [hH17]; exact Frm.of_upd
    have ks17 : KSet H17 kd (fun c => p c ∨ pS c) := by rw [hH17]; exact kset_merge stS.kn ksS hkk hks
    have tf17 := stS.tf (F3.c (x := d) (y := eld) fu)
    have lke17 : LkAt K H17 ea wt eld p := by
      obtain ⟨dx, ha, he⟩ := stS.ey
      exact ⟨dx, fu _ _ (fun e => by rw [e, hkk] at ha; cases ha) ha, he.frm fu stS.ne⟩
    have hdl : ∀ {x : Addr}, Pot H16 d → (∃ o, H16 x = some (.dK o)) → d ≠ x := fun hp ho e => by
      obtain ⟨o, ho⟩ := ho
      obtain ⟨xs, z⟩ := hp.lst
      rw [← e, z] at ho
      cases ho
    have pot17 : Pot H17 d := stS.pot.keep (by
      obtain ⟨xs, z⟩ := stS.pot.lst
      rw [z]
      exact fu _ _ (hdl stS.pot ⟨_, hkk⟩) z)
    refine seq_cut (fun σ' H' => σ' = [some (.ref d), some g, some (.ref wa), some (.ref wt), some (.ref ea), some (.ref kd), v6, some (.int G.hi), v8, v9, some (.ref pb), some (.ref D), v12, some (.int mk), some (.ref bu), some (.ref sd), some (.ref t), some (.ref a), none, none] ∧ LkAt K H' a wt ld pS ∧ KSet H' sd pS ∧ SqT K H' pb b.vs ∧ LSt K H' d g wa wt ea eld kd G sl wv wd (fun c => p c ∨ pS c) ∧ F3 d eld kd H H') (fun σ' H18 hP => ?_) (fun R hR => ?_)
    rotate_left
    · refine ⟨_, rfl, _, rfl, _, rfl, _, rfl, g, .ref pb, ea, wt, eld, bu, wv, G, sl, b, but, _, rfl, stS.gm.tf tf17, stS.ok, stS.sa, lke17, stS.wtt.tf tf17, ⟨pb, rfl, tf17.sq hpbS⟩, lim, tf17.sq hbuS, fun t2 H18 f18 lk18 ht2 => ⟨_, rfl, .ref t2, .ref t, bkD L, rfl, bkD_dp (by rw [hL]; exact ht2), bkD_dp ((lke17.tf f18).sq (tf17.sq htS)), bkD4 _ Ll, fun H19 s19 => ⟨true, rfl, iteF ?_⟩⟩⟩
      have fA : F3 d eld kd H16 H19 := (F3.c fu).trans ((F3.b f18).trans (F3.s s19))
      have ep : ∀ c, seenP G sl b but p c ↔ (p c ∨ pS c) := fun c => by
        rw [hpS]
        unfold seenP
        simp
      have stZ := stS.mv (q := fun c => p c ∨ pS c) fA ((pot17.keep (by
        obtain ⟨xs, z⟩ := pot17.lst
        obtain ⟨kx, hkx⟩ := lke17.choose_spec.2.dict
        rw [z]
        exact f18 _ _ (fun e => by rw [e, hkx] at z; cases z) z)).same s19) ((lk18.choose_spec.2.imp ep).same s19) ((ks17.frm f18 (Ne.symm stS.ne)).same s19)
      exact hR _ _ ⟨rfl, stS.exl fA lkS nl1 nl2, stS.exk fA ksS nle nlk, (stS.tf fA).sq hpbS, stZ, fS.trans fA⟩
    clear tf17 lke17 pot17 ks17 fu hbuS htS
    obtain ⟨rfl, lkT, ksT, hpbT, stT, fT⟩ := hP
    obtain ⟨q0, hq0⟩ : ∃ q0 : Int → Prop, q0 = fun c => p c ∨ pS c := ⟨_, rfl⟩
    rw [← hq0] at stT
    have hp : ∀ c, pS c → 0 ≤ c ∧ c < (wv.length : Int) := fun c hc => by
      rw [hpS] at hc
      rcases hc with hc | hc
      · exact hc.elim
      · exact seen_lt stT.ok lim stT.wtt.len hc
    have hbq : ∀ c, q0 c → 0 ≤ c ∧ c < (wv.length : Int) := fun c hc => by
      rw [hq0] at hc
      exact hc.elim (hb0 c) (hp c)
    refine seq_cut (fun σ' H' => ∃ (q : Int → Prop) (v16 : Option V), (∀ c, q c → 0 ≤ c ∧ c < (wv.length : Int)) ∧ σ' = [some (.ref d), some g, some (.ref wa), some (.ref wt), some (.ref ea), some (.ref kd), v6, some (.int G.hi), v8, v9, some (.ref pb), some (.ref D), v12, some (.int mk), some (.ref bu), some (.ref sd), v16, some (.ref a), none, none] ∧ LkAt K H' a wt ld pS ∧ KSet H' sd pS ∧ LSt K H' d g wa wt ea eld kd G sl wv wd q ∧ F3 d eld kd H H') (fun σ' H19 hP => ?_) (fun R hR => ?_)
    rotate_left
    · refine ⟨_, rfl, d, 2, rfl, by decide, by decide, stT.pot, fun z H19 _ _ f19 d19 => ⟨rfl, _, rfl, ite2 (fun _ => ?_) (fun _ => hR _ _ ⟨q0, _, hbq, rfl, stT.exl (F3.a f19) lkT nl1 nl2, stT.exk (F3.a f19) ksT nle nlk, stT.take f19 d19, fT.trans (F3.a f19)⟩)⟩⟩
      have st19 := stT.take f19 d19
      have hpb19 := (pot_tf f19 stT.pot).sq hpbT
      have fA19 : F3 d eld kd H18 H19 := F3.a f19
      refine ⟨_, rfl, _, rfl, _, rfl, _, rfl, (show 0 ≤ sizeLine by decide), fun e ne => ?_⟩
      have se := new_same (o := .tup []) ne
      have ste := st19.same se
      obtain ⟨kke, hke⟩ := ste.kn.dict
      have hee : SqT K (upd H19 e (.tup [])) e (nV []) := SqT.of upd_same
      refine ⟨g, .ref pb, .ref e, wa, kd, G, sl, b, [], q0, rfl, ste.gm, ste.ok, ste.sa, ste.ws.wl, ste.kn, ⟨pb, rfl, (same_tf se).sq hpb19⟩, lim, ⟨e, rfl, fun H' f => .inr ((Frm.tfk f hke).sq hee)⟩, fun q H21 f21 ks21 hq nq => ⟨q, _, rfl, .inl ⟨SqL.of hq, fun t3 nt3 => ?_⟩⟩⟩
      have s22 := new_same (o := .tup (nV (lookL G sl b []))) nt3
      have fB : F3 d eld kd (upd H19 e (.tup [])) (upd H21 t3 (.tup (nV (lookL G sl b [])))) := (F3.c f21).trans (F3.s s22)
      have ht3 : SqT K (upd H21 t3 (.tup (nV (lookL G sl b [])))) t3 (nV (lookL G sl b [])) := SqT.of upd_same
      have ks22 := ks21.same s22
      have fC : F3 d eld kd (upd H19 e (.tup [])) (upd H21 t3 (.tup (nV (lookL G sl b [])))) := fB
      obtain ⟨H22, hH22⟩ : ∃ H22, H22 = upd H21 t3 (.tup (nV (lookL G sl b []))) := ⟨_, rfl⟩
      show gName 16 _ _ (upd H21 t3 (.tup (nV (lookL G sl b [])))) _
      rw [← hH22] at ht3 ks22 fC s22 ⊢
      have tf22 := ste.tf fC
      refine ⟨_, rfl, _, rfl, _, rfl, (show 0 ≤ sizeLine by decide), fun e2 ne2 => ?_⟩
      have se2 := new_same (o := .tup []) ne2
      have fD := fC.trans (F3.s se2)
      have tf23 := ste.tf fD
      have lke23 : LkAt K (upd H22 e2 (.tup [])) ea wt eld q0 := by
        obtain ⟨dx, ha, he⟩ := ste.ey
        refine ⟨dx, se2 _ _ (s22 _ _ (f21 _ _ (fun e => by rw [e, hke] at ha; cases ha) ha)), ((he.frm f21 ste.ne).same s22).same se2⟩
      refine ⟨g, .ref pb, ea, wt, eld, e2, wv, G, sl, b, [], q0, rfl, ste.gm.tf tf23, ste.ok, ste.sa, lke23, ste.wtt.tf tf23, ⟨pb, rfl, tf23.sq ((same_tf se).sq hpb19)⟩, lim, SqT.of upd_same, fun t4 H24 f24 lk24 ht4 => ⟨_, rfl, .ref t4, .ref t3, bkD (lookL G sl b []), rfl, bkD_dp ht4, bkD_dp ((lke23.tf f24).sq ((same_tf se2).sq ht3)), bkD4 _ (look_len _ _ _ _), fun H25 s25 => ⟨true, rfl, iteF ?_⟩⟩⟩
      have fE : F3 d eld kd (upd H19 e (.tup [])) H25 := fD.trans ((F3.b f24).trans (F3.s s25))
      have fF : F3 d eld kd H18 H25 := fA19.trans ((F3.s se).trans fE)
      have pE : Pot H25 d := ste.pot.keep (by
        obtain ⟨xs, z⟩ := ste.pot.lst
        obtain ⟨kx, hkx⟩ := ste.ey.choose_spec.2.dict
        rw [z]
        exact s25 _ _ (f24 _ _ (fun e => by rw [e, hkx] at z; cases z) (se2 _ _ (s22 _ _ (f21 _ _ (fun e => by rw [e, hke] at z; cases z) z)))))
      exact hR _ _ ⟨_, _, fun c hc => hc.elim (hbq c) (fun z => seen_lt stT.ok lim stT.wtt.len z), rfl, stT.exl fF lkT nl1 nl2, stT.exk fF ksT nle nlk, ste.mv fE pE (lk24.choose_spec.2.same s25) (((ks22.same se2).frm f24 (Ne.symm ste.ne)).same s25), fT.trans fF⟩
    clear lkT ksT stT fT hpbT
    obtain ⟨q, v16, hbU, rfl, lkU, ksU, stU, fU⟩ := hP
    obtain ⟨dxa, haa, _⟩ := id lkU
    have nl := al_nls stU.al
    refine ⟨_, rfl, a, dxa, _, rfl, haa, rfl, a, wt, ld, wv, wd, pS, rfl, lkU, stU.wtt.sq, stU.dd, nl, hp, fun t5 ys H20 s20 yp ym dy => ⟨_, rfl, _, rfl, wt, sd, wv, wd, pS, rfl, ksU.same s20, (same_tf s20).sq stU.wtt.sq, dpa_nl (same_tf s20) _ _ nl stU.dd, nl, hp, fun t6 zs H21 s21 zp zm dz => ?_⟩⟩
    have e : zs = ys := same_ys zp yp zm ym
    rw [e] at dz
    have al4 := seenD_al stU.al (ys_len yp ym ksU)
    exact ⟨.ref t5, .ref t6, seenD wd ys, rfl, dp_nl (same_tf s21) _ _ (alok_nl _ _ al4) dy, dz, al4, fun H22 s22 => k q H22 (fU.trans (F3.s (s20.trans (s21.trans s22)))) (stU.same (s20.trans (s21.trans s22))) hbU⟩
end
end K22
set_option maxRecDepth 100000
set_option maxHeartbeats 4000000
/-! The law of lots. -/
namespace K22
open PySem PySem.Spec PyProof.Rows L2 KF KD KP
section
variable {P : Program} {w : World} {K : PySem.W.Frag} {mg : Str → Option Value} {base : Heap}
def spLls (K : PySem.W.Frag) : Sp := fun vs H Q _ => ∃ (d : Addr) (g : V) (wa wt ea eld kd : Addr) (G : Gm) (sl : List (Option Tg)) (wv : List V) (wd : List PyData) (p : Int → Prop) (s : Nat) (t : Tg), vs = [.ref d, g, .ref wa, .ref wt, .int (s : Int), .ref ea, .ref kd] ∧ s < 16 ∧ sl[s]? = some (some t) ∧ LSt K H d g wa wt ea eld kd G sl wv wd p ∧ (∀ c, p c → 0 ≤ c ∧ c < (wv.length : Int)) ∧ ∀ (q : Int → Prop) H', F3 d eld kd H H' → LSt K H' d g wa wt ea eld kd G sl wv wd q → (∀ c, q c → 0 ≤ c ∧ c < (wv.length : Int)) → Q (.bl true) H'
theorem scLls : FnScope ["pot", "game", "w", "world", "slot", "eyes", "known", "dx", "dy", "seen", "due", "looks", "alone", "rest", "other", "cell", "back"] ["pot", "game", "w", "world", "slot", "eyes", "known"] (defScope s_law_lots) := ⟨rfl, rfl, rfl, by decide +kernel, rfl, by decide +kernel, by decide +kernel⟩
theorem ok_law_lots (T : Txt K w mg) : FnOk P w K mg base CX0 10 (He.fAd K ("_law_lots", none)) (fdAt K (He.fAd K ("_law_lots", none))) ["pot", "game", "w", "world", "slot", "eyes", "known"] (spLls K) := by
  refine T.F_law_lots.ok scLls (fun vs H Q E h => ?_) (fun cdv A outer s H vs Q E hr h => ?_)
  · obtain ⟨d, g, wa, wt, ea, eld, kd, G, sl, wv, wd, p, s, t, rfl, _⟩ := h
    rfl
  · obtain ⟨d, g, wa, wt, ea, eld, kd, G, sl, wv, wd, p, s, t, rfl, s16, hst, st, hb0, k⟩ := h
    have hu := Nat.lt_of_le_of_lt (Nat.add_le_add_left (by decide : 1 ≤ 64) _) hr.units
    refine ⟨_, PSs.nox (pss_cons (ps_asg (pe_ix (r := rIxL K) ix_list (pe_lst (pa_cons (pe_tup (pa_cons (pe_un un_neg pe_int) (pa_cons pe_int pa_nil))) (pa_cons (pe_tup (pa_cons pe_int (pa_cons pe_int pa_nil))) (pa_cons (pe_tup (pa_cons pe_int (pa_cons (pe_un un_neg pe_int) pa_nil))) (pa_cons (pe_tup (pa_cons pe_int (pa_cons pe_int pa_nil))) pa_nil))))) (pe_call (ok_law_take T) (hr.mono (by first | decide | omega)) (by rfl) T.g_law_take (T.F_law_take).kp T.b_law_take .nil pass0 (pa_cons (pv 0) (pa_cons pe_int pa_nil))) (fun _ _ => rfl)) (pg_tup (by rfl) (pgs_cons (pg_name (i := 7) scLls.nd rfl (Or.inl rfl)) (pgs_cons (pg_name (i := 8) scLls.nd rfl (Or.inl rfl)) pgs_nil))))
      (pss_cons (ps_set (i := 9) scLls.nd rfl (Or.inl rfl) (pe_disp (pps_cons (pv 4) pe_bl pps_nil) (by rfl) (by rfl) (fun z => by cases z) (by decide)))
      (pss_cons (ps_set (i := 10) scLls.nd rfl (Or.inl rfl) (pe_callTy call_tuple_of (by rfl) T.n_tuple PyProof.Rows.Boot.«tuple» (pa_cons (pe_call (ok_law_lot T) (hr.mono (by first | decide | omega)) (by rfl) T.g_law_lot (T.F_law_lot).kp T.b_law_lot .nil pass0 (pa_cons (pv 1) (pa_cons (pv 2) (pa_cons (pv 9) (pa_cons (pv 4) (pa_cons (pv 7) (pa_cons (pv 8) pa_nil))))))) pa_nil)))
      (pss_cons (ps_set (i := 11) scLls.nd rfl (Or.inl rfl) (pe_make T.m_Looks (ok_Looks_init T) (hr.mono (by decide)) (by rfl) T.g_Looks T.b_Looks_init .nil pass0 (pa_cons (pv 3) pa_nil)))
      (pss_cons (ps_if (pt_not (pt_val (pe_call (ok_law_same T 5) (hr.mono (by first | decide | omega)) (by rfl) T.g_law_same (T.F_law_same).kp T.b_law_same .nil pass0 (pa_cons (pe_call (ok_lot T) (hr.mono (by first | decide | omega)) (by rfl) T.g_lot (T.F_lot).kp T.b_lot .nil pass0 (pa_cons (pv 1) (pa_cons (pv 11) (pa_cons (pv 4) (pa_cons (pv 7) (pa_cons (pv 8) pa_nil)))))) (pa_cons (pv 10) pa_nil))))) (pss_one (ps_ret pe_bl)) pss_nil)
      (pss_cons (ps_if (pt_not (pt_val (pe_call (ok_law_same T 5) (hr.mono (by first | decide | omega)) (by rfl) T.g_law_same (T.F_law_same).kp T.b_law_same .nil pass0 (pa_cons (pe_meth0 (pv 11) T.k_Looks T.e_Looks_seen (ok_Looks_seen T) (hr.mono (by decide)) T.b_Looks_seen .nil pass0) (pa_cons (pe_call (ok_law_seen T) (hr.mono (by first | decide | omega)) (by rfl) T.g_law_seen (T.F_law_seen).kp T.b_law_seen .nil pass0 (pa_cons (pv 3) (pa_cons (pv 9) pa_nil))) pa_nil))))) (pss_one (ps_ret pe_bl)) pss_nil)
      (pss_cons (ps_set (i := 12) scLls.nd rfl (Or.inl rfl) (pe_disp (pps_cons (pv 4) pe_bl pps_nil) (by rfl) (by rfl) (fun z => by cases z) (by decide)))
      (pss_cons (ps_set (i := 13) scLls.nd rfl (Or.inl rfl) (pe_call (ok_law_rest T) (hr.mono (by first | decide | omega)) (by rfl) T.g_law_rest (T.F_law_rest).kp T.b_law_rest .nil pass0 (pa_cons (pv 1) (pa_cons (pv 2) (pa_cons (pv 12) (pa_cons (pv 4) pa_nil))))))
      (pss_cons (ps_set (i := 14) scLls.nd rfl (Or.inl rfl) (pe_make T.m_Looks (ok_Looks_init T) (hr.mono (by decide)) (by rfl) T.g_Looks T.b_Looks_init .nil pass0 (pa_cons (pv 3) pa_nil)))
      (pss_cons (ps_if (PW.pt (pw_or (pt_not (pt_val (pe_call (ok_law_same T 5) (hr.mono (by first | decide | omega)) (by rfl) T.g_law_same (T.F_law_same).kp T.b_law_same .nil pass0 (pa_cons (pe_call (ok_stands_on T) (hr.mono (by first | decide | omega)) (by rfl) T.g_stands_on (T.F_stands_on).kp T.b_stands_on .nil pass0 (pa_cons (pv 1) (pa_cons (pv 14) (pa_cons (pv 4) pa_nil)))) (pa_cons (pv 13) pa_nil))))) (pw_or1 (pt_not (pt_val (pe_call (ok_law_same T 5) (hr.mono (by first | decide | omega)) (by rfl) T.g_law_same (T.F_law_same).kp T.b_law_same .nil pass0 (pa_cons (pe_meth0 (pv 14) T.k_Looks T.e_Looks_seen (ok_Looks_seen T) (hr.mono (by decide)) T.b_Looks_seen .nil pass0) (pa_cons (pe_call (ok_law_seen T) (hr.mono (by first | decide | omega)) (by rfl) T.g_law_seen (T.F_law_seen).kp T.b_law_seen .nil pass0 (pa_cons (pv 3) (pa_cons (pv 12) pa_nil))) pa_nil)))))))) (pss_one (ps_ret pe_bl)) pss_nil)
      (pss_cons (ps_lock (ps_for PassesOwn.never rfl (pi_keys (pv 12)) (pg_name (i := 15) scLls.nd rfl (Or.inl rfl)) (pss_one (ps_dput hu (pv 9) (pv 15) pe_bl rfl))))
      (pss_cons (ps_if (pt_not (pt_val (pe_call (ok_law_same T 5) (hr.mono (by first | decide | omega)) (by rfl) T.g_law_same (T.F_law_same).kp T.b_law_same .nil pass0 (pa_cons (pe_call (ok_stands_on T) (hr.mono (by first | decide | omega)) (by rfl) T.g_stands_on (T.F_stands_on).kp T.b_stands_on .nil pass0 (pa_cons (pv 1) (pa_cons (pv 11) (pa_cons (pv 4) pa_nil)))) (pa_cons (pv 13) pa_nil))))) (pss_one (ps_ret pe_bl)) pss_nil)
      (pss_cons (ps_if (pt_not (pt_val (pe_call (ok_law_same T 5) (hr.mono (by first | decide | omega)) (by rfl) T.g_law_same (T.F_law_same).kp T.b_law_same .nil pass0 (pa_cons (pe_meth0 (pv 11) T.k_Looks T.e_Looks_seen (ok_Looks_seen T) (hr.mono (by decide)) T.b_Looks_seen .nil pass0) (pa_cons (pe_call (ok_law_seen T) (hr.mono (by first | decide | omega)) (by rfl) T.g_law_seen (T.F_law_seen).kp T.b_law_seen .nil pass0 (pa_cons (pv 3) (pa_cons (pv 9) pa_nil))) pa_nil))))) (pss_one (ps_ret pe_bl)) pss_nil)
      (pss_cons (ps_expr (pe_bm PySem.F.plainAttrs_dict PySem.F.slot_dict_update PySem.F.type_dict_update KU.mt_update (pv 6) (pa_cons (pv 9) pa_nil)))
      (pss_cons (ps_set (i := 16) scLls.nd rfl (Or.inl rfl) (pe_callTy call_tuple_of (by rfl) T.n_tuple PyProof.Rows.Boot.«tuple» (pa_cons (pe_call (ok_law_lot T) (hr.mono (by first | decide | omega)) (by rfl) T.g_law_lot (T.F_law_lot).kp T.b_law_lot .nil pass0 (pa_cons (pv 1) (pa_cons (pv 2) (pa_cons (pv 6) (pa_cons (pv 4) (pa_cons (pe_un un_neg (pv 7)) (pa_cons (pe_un un_neg (pv 8)) pa_nil))))))) pa_nil)))
      (pss_cons (ps_if (PW.pt (pw_or (pt_not (pt_val (pe_call (ok_law_same T 5) (hr.mono (by first | decide | omega)) (by rfl) T.g_law_same (T.F_law_same).kp T.b_law_same .nil pass0 (pa_cons (pe_call (ok_lot T) (hr.mono (by first | decide | omega)) (by rfl) T.g_lot (T.F_lot).kp T.b_lot .nil pass0 (pa_cons (pv 1) (pa_cons (pv 5) (pa_cons (pv 4) (pa_cons (pv 7) (pa_cons (pv 8) pa_nil)))))) (pa_cons (pv 10) pa_nil))))) (pw_or1 (pt_not (pt_val (pe_call (ok_law_same T 5) (hr.mono (by first | decide | omega)) (by rfl) T.g_law_same (T.F_law_same).kp T.b_law_same .nil pass0 (pa_cons (pe_call (ok_lot T) (hr.mono (by first | decide | omega)) (by rfl) T.g_lot (T.F_lot).kp T.b_lot .nil pass0 (pa_cons (pv 1) (pa_cons (pv 5) (pa_cons (pv 4) (pa_cons (pe_un un_neg (pv 7)) (pa_cons (pe_un un_neg (pv 8)) pa_nil)))))) (pa_cons (pv 16) pa_nil)))))))) (pss_one (ps_ret pe_bl)) pss_nil)
      (pss_one (ps_ret (pe_and (pe_call (ok_law_same T 5) (hr.mono (by first | decide | omega)) (by rfl) T.g_law_same (T.F_law_same).kp T.b_law_same .nil pass0 (pa_cons (pe_call (ok_stands_on T) (hr.mono (by first | decide | omega)) (by rfl) T.g_stands_on (T.F_stands_on).kp T.b_stands_on .nil pass0 (pa_cons (pv 1) (pa_cons (pv 5) (pa_cons (pv 4) pa_nil)))) (pa_cons (pv 13) pa_nil))) (pe_one (pe_call (ok_law_same T 5) (hr.mono (by first | decide | omega)) (by rfl) T.g_law_same (T.F_law_same).kp T.b_law_same .nil pass0 (pa_cons (pe_call (ok_lot T) (hr.mono (by first | decide | omega)) (by rfl) T.g_lot (T.F_lot).kp T.b_lot .nil pass0 (pa_cons (pv 1) (pa_cons (pv 11) (pa_cons (pv 4) (pa_cons (pv 7) (pa_cons (pv 8) pa_nil)))))) (pa_cons (pv 10) pa_nil))))))))))))))))))))))), ?_⟩
    have hsl : (s : Int) < 16 := by omega
    refine seq_cut (fun σ' H' => ∃ dx dy : Int, σ' = [some (.ref d), some g, some (.ref wa), some (.ref wt), some (.int (s : Int)), some (.ref ea), some (.ref kd), some (.int dx), some (.int dy), none, none, none, none, none, none, none, none] ∧ (dx, dy) ∈ dirs ∧ LSt K H' d g wa wt ea eld kd G sl wv wd p ∧ F3 d eld kd H H') (fun σ' H1 hP => ?_) (fun R hR => ?_)
    rotate_left
    · refine ⟨_, rfl, (show 2 ≤ sizeLine by decide), fun p0 np0 => ⟨(show 2 ≤ sizeLine by decide), fun p1 np1 => ⟨_, rfl, (show 2 ≤ sizeLine by decide), fun p2 np2 => ⟨(show 2 ≤ sizeLine by decide), fun p3 np3 => ⟨(show 4 ≤ sizeLine by decide), fun pl npl => ?_⟩⟩⟩⟩⟩
      have e0 := new_same (o := .tup [V.int (-1), .int 0]) np0
      have e1 := new_same (o := .tup [V.int 1, .int 0]) np1
      have e2 := new_same (o := .tup [V.int 0, .int (-1)]) np2
      have e3 := new_same (o := .tup [V.int 0, .int 1]) np3
      have e4 := new_same (o := .lst [V.ref p0, .ref p1, .ref p2, .ref p3]) npl
      have S := e0.trans (e1.trans (e2.trans (e3.trans e4)))
      have stA := st.same S
      have h0 := (same_tf (e1.trans (e2.trans (e3.trans e4)))).sq (SqT.of (K := K) (upd_same (H := H) (a := p0) (o := .tup [V.int (-1), .int 0])))
      have h1 := (same_tf (e2.trans (e3.trans e4))).sq (SqT.of (K := K) (upd_same (a := p1) (o := .tup [V.int 1, .int 0])))
      have h2 := (same_tf (e3.trans e4)).sq (SqT.of (K := K) (upd_same (a := p2) (o := .tup [V.int 0, .int (-1)])))
      have h3 := (same_tf e4).sq (SqT.of (K := K) (upd_same (a := p3) (o := .tup [V.int 0, .int 1])))
      refine ⟨_, rfl, d, 4, rfl, by decide, by decide, stA.pot, fun z H2 z0 z1 f2 d2 => ?_⟩
      have tf2 := pot_tf f2 stA.pot
      have pld : pl ≠ d := fun e => by
        obtain ⟨r, m, i, cs, g1, _⟩ := stA.pot
        rw [← e, upd_same] at g1
        cases g1
      obtain ⟨pv, x, y, hat, hsq, hdd⟩ := pick4 (tf2.sq h0) (tf2.sq h1) (tf2.sq h2) (tf2.sq h3) z0 z1
      exact ⟨pl, _, _, .ref pv, rfl, rfl, SqL.of (f2 _ _ pld upd_same), hat, pv, _, rfl, hsq, rfl, _, _, rfl, _, _, rfl, rfl, hR _ _ ⟨x, y, rfl, hdd, stA.take f2 d2, (F3.s S).trans (F3.a f2)⟩⟩
    obtain ⟨dx, dy, rfl, hdd, st1, f1⟩ := hP
    obtain ⟨pL, hpL⟩ : ∃ pL : Int → Prop, pL = fun c => c = (s : Int) ∨ lotS G sl dx dy 16 [s] 0 c := ⟨_, rfl⟩
    obtain ⟨L, hL⟩ : ∃ L, L = lotR G sl dx dy s := ⟨_, rfl⟩
    have Ll : L.length ≤ 16 := by
      rw [hL, lotR]
      unfold lotV
      split
      · exact Nat.zero_le _
      · exact Nat.le_trans (List.length_filter_le _ _) (by rw [List.length_range]; exact Nat.le_refl _)
    refine seq_cut (fun σ' H' => ∃ sd : Addr, σ' = [some (.ref d), some g, some (.ref wa), some (.ref wt), some (.int (s : Int)), some (.ref ea), some (.ref kd), some (.int dx), some (.int dy), some (.ref sd), none, none, none, none, none, none, none] ∧ KSet H' sd (fun c => c = (s : Int)) ∧ H sd = none ∧ sd ≠ eld ∧ sd ≠ kd ∧ LSt K H' d g wa wt ea eld kd G sl wv wd p ∧ F3 d eld kd H H') (fun σ' H2 hP => ?_) (fun R hR => ?_)
    rotate_left
    · refine fun sd nsd => ⟨_, rfl, upd_same, [(.inl (s : Int), .bl true)], rfl, (show 1 ≤ 15 by decide), ?_⟩
      have hk : (upd (upd H1 sd (.dK [])) sd (.dK [(.inl (s : Int), .bl true)])) sd = some (.dK [(.inl (s : Int), .bl true)]) := upd_same
      have sm : Same H1 (upd (upd H1 sd (.dK [])) sd (.dK [(.inl (s : Int), .bl true)])) := fun b o z => by
        rw [upd_ne (ne_of_none z nsd), upd_ne (ne_of_none z nsd)]
        exact z
      exact hR _ _ ⟨sd, rfl, kset_one s16 hk, st1.n0 f1 nsd, nkey nsd st1.ey.choose_spec.2, nkey nsd st1.kn, st1.same sm, f1.trans (F3.s sm)⟩
    obtain ⟨sd, rfl, ks2, nsd0, nse, nsk, st2, f2⟩ := hP
    clear st1 f1
    refine seq_cut (fun σ' H' => ∃ t1 : Addr, σ' = [some (.ref d), some g, some (.ref wa), some (.ref wt), some (.int (s : Int)), some (.ref ea), some (.ref kd), some (.int dx), some (.int dy), some (.ref sd), some (.ref t1), none, none, none, none, none, none] ∧ SqT K H' t1 (nV L) ∧ KSet H' sd pL ∧ LSt K H' d g wa wt ea eld kd G sl wv wd p ∧ F3 d eld kd H H') (fun σ' H3 hP => ?_) (fun R hR => ?_)
    rotate_left
    · obtain ⟨k0, hk0⟩ := ks2.dict
      refine ⟨_, rfl, _, rfl, _, rfl, _, rfl, _, rfl, _, rfl, g, wa, sd, G, sl, s, t, dx, dy, _, rfl, hdd, st2.gm, st2.ok, st2.sa, s16, hst, st2.ws.wl, ks2, fun q H4 f4 ks4 hq nq => ⟨q, _, rfl, .inl ⟨SqL.of hq, fun t1 nt1 => ?_⟩⟩⟩
      have s5 := new_same (o := .tup (nV (lotR G sl dx dy s))) nt1
      refine hR _ _ ⟨t1, rfl, by rw [hL]; exact SqT.of upd_same, by rw [hpL]; exact ks4.same s5, (st2.oth f4 hk0 nse nsk).same s5, (F3.fr f2 nsd0 f4).trans (F3.s s5)⟩
    clear st2 f2 ks2
    obtain ⟨t1, rfl, ht1, ks3, st3, f3⟩ := hP
    refine seq_cut (fun σ' H' => ∃ (a ld : Addr), σ' = [some (.ref d), some g, some (.ref wa), some (.ref wt), some (.int (s : Int)), some (.ref ea), some (.ref kd), some (.int dx), some (.int dy), some (.ref sd), some (.ref t1), some (.ref a), none, none, none, none, none] ∧ LkAt K H' a wt ld (fun _ => False) ∧ ld ≠ eld ∧ ld ≠ kd ∧ ld ≠ sd ∧ H ld = none ∧ SqT K H' t1 (nV L) ∧ KSet H' sd pL ∧ LSt K H' d g wa wt ea eld kd G sl wv wd p ∧ F3 d eld kd H H') (fun σ' H4 hP => ?_) (fun R hR => ?_)
    rotate_left
    · refine ⟨_, rfl, fun a dx' na ndx nda => ⟨a, dx', wt, rfl, upd_same, fun H14 ld lk14 fa nld => ⟨rfl, ?_⟩⟩⟩
      have sL := new_looks na ndx fa
      have nl12 := none_looks nld
      exact hR _ _ ⟨a, ld, rfl, lk14, nkey nl12 st3.ey.choose_spec.2, nkey nl12 st3.kn, nkey nl12 ks3, st3.n0 f3 nl12, (same_tf sL).sq ht1, ks3.same sL, st3.same sL, f3.trans (F3.s sL)⟩
    clear ht1 ks3 st3 f3
    obtain ⟨a, ld, rfl, lk4, nl1, nl2, nls, nl0, ht4, ks4, st4, f4⟩ := hP
    have hsw : 0 ≤ (s : Int) ∧ (s : Int) < (wv.length : Int) := by
      have := st4.wtt.len
      have := bhw st4.ok
      omega
    have hpl : ∀ c, pL c → 0 ≤ c ∧ c < (wv.length : Int) := fun c hc => by
      rw [hpL] at hc
      rcases hc with rfl | hc
      · exact hsw
      · exact lotS_lt st.ok st.sa hdd st.wtt.len _ _ _ hc
    obtain ⟨pA, hpA⟩ : ∃ pA : Int → Prop, pA = fun c => c = (s : Int) ∨ restS G sl s c := ⟨_, rfl⟩
    have hpa : ∀ c, pA c → 0 ≤ c ∧ c < (wv.length : Int) := fun c hc => by
      rw [hpA] at hc
      rcases hc with rfl | hc
      · exact hsw
      · exact restS_lt st.ok st.sa st.wtt.len hc
    refine seq_cut (fun σ' H' => σ' = [some (.ref d), some g, some (.ref wa), some (.ref wt), some (.int (s : Int)), some (.ref ea), some (.ref kd), some (.int dx), some (.int dy), some (.ref sd), some (.ref t1), some (.ref a), none, none, none, none, none] ∧ LkAt K H' a wt ld pL ∧ SqT K H' t1 (nV L) ∧ KSet H' sd pL ∧ LSt K H' d g wa wt ea eld kd G sl wv wd p ∧ F3 d eld kd H H') (fun σ' H5 hP => ?_) (fun R hR => ?_)
    rotate_left
    · refine ⟨_, rfl, _, rfl, _, rfl, _, rfl, _, rfl, g, a, wt, ld, wv, G, sl, s, t, dx, dy, _, rfl, hdd, st4.gm, st4.ok, st4.sa, s16, hst, lk4, st4.wtt, fun t2 H15 f15 lk15 ht2 => ⟨_, rfl, .ref t2, .ref t1, bkD L, rfl, bkD_dp (by rw [hL]; exact ht2), bkD_dp ((lk4.tf f15).sq ht4), bkD4 _ Ll, fun H16 s16' => ⟨true, rfl, iteF ?_⟩⟩⟩
      obtain ⟨kvl, hkl⟩ := lk4.choose_spec.2.dict
      have st15 := st4.oth f15 hkl nl1 nl2
      have ep : ∀ c, lotP G sl dx dy s (fun _ => False) c ↔ pL c := fun c => by
        rw [hpL]
        unfold lotP
        simp
      exact hR _ _ ⟨rfl, (lk15.imp ep).same s16', (same_tf s16').sq ((lk4.tf f15).sq ht4), (ks4.frm f15 (Ne.symm nls)).same s16', st15.same s16', (F3.fr f4 nl0 f15).trans (F3.s s16')⟩
    clear lk4 ht4 ks4 st4 f4
    obtain ⟨rfl, lk5, ht5, ks5, st5, f5⟩ := hP
    refine seq_cut (fun σ' H' => σ' = [some (.ref d), some g, some (.ref wa), some (.ref wt), some (.int (s : Int)), some (.ref ea), some (.ref kd), some (.int dx), some (.int dy), some (.ref sd), some (.ref t1), some (.ref a), none, none, none, none, none] ∧ LkAt K H' a wt ld pL ∧ SqT K H' t1 (nV L) ∧ KSet H' sd pL ∧ LSt K H' d g wa wt ea eld kd G sl wv wd p ∧ F3 d eld kd H H') (fun σ' H6 hP => ?_) (fun R hR => ?_)
    rotate_left
    · obtain ⟨dxa, haa, _⟩ := id lk5
      have nl := al_nls st5.al
      refine ⟨_, rfl, a, dxa, _, rfl, haa, rfl, a, wt, ld, wv, wd, pL, rfl, lk5, st5.wtt.sq, st5.dd, nl, hpl, fun t5 ys H20 s20 yp ym dy' => ⟨_, rfl, _, rfl, wt, sd, wv, wd, pL, rfl, ks5.same s20, (same_tf s20).sq st5.wtt.sq, dpa_nl (same_tf s20) _ _ nl st5.dd, nl, hpl, fun t6 zs H21 s21 zp zm dz => ?_⟩⟩
      have e : zs = ys := same_ys zp yp zm ym
      rw [e] at dz
      have al4 := seenD_al st5.al (ys_len yp ym ks5)
      refine ⟨.ref t5, .ref t6, seenD wd ys, rfl, dp_nl (same_tf s21) _ _ (alok_nl _ _ al4) dy', dz, al4, fun H22 s22 => ⟨true, rfl, iteF ?_⟩⟩
      have sZ := s20.trans (s21.trans s22)
      exact hR _ _ ⟨rfl, lk5.same sZ, (same_tf sZ).sq ht5, ks5.same sZ, st5.same sZ, f5.trans (F3.s sZ)⟩
    clear lk5 ht5 ks5 st5 f5
    obtain ⟨rfl, lk6, ht6, ks6, st6, f6⟩ := hP
    refine seq_cut (fun σ' H' => ∃ al : Addr, σ' = [some (.ref d), some g, some (.ref wa), some (.ref wt), some (.int (s : Int)), some (.ref ea), some (.ref kd), some (.int dx), some (.int dy), some (.ref sd), some (.ref t1), some (.ref a), some (.ref al), none, none, none, none] ∧ KSet H' al (fun c => c = (s : Int)) ∧ H al = none ∧ al ≠ eld ∧ al ≠ kd ∧ al ≠ sd ∧ al ≠ ld ∧ LkAt K H' a wt ld pL ∧ SqT K H' t1 (nV L) ∧ KSet H' sd pL ∧ LSt K H' d g wa wt ea eld kd G sl wv wd p ∧ F3 d eld kd H H') (fun σ' H7 hP => ?_) (fun R hR => ?_)
    rotate_left
    · refine fun al nal => ⟨_, rfl, upd_same, [(.inl (s : Int), .bl true)], rfl, (show 1 ≤ 15 by decide), ?_⟩
      have hk : (upd (upd H6 al (.dK [])) al (.dK [(.inl (s : Int), .bl true)])) al = some (.dK [(.inl (s : Int), .bl true)]) := upd_same
      have sm : Same H6 (upd (upd H6 al (.dK [])) al (.dK [(.inl (s : Int), .bl true)])) := fun b o z => by
        rw [upd_ne (ne_of_none z nal), upd_ne (ne_of_none z nal)]
        exact z
      exact hR _ _ ⟨al, rfl, kset_one s16 hk, st6.n0 f6 nal, nkey nal st6.ey.choose_spec.2, nkey nal st6.kn, nkey nal ks6, nkey nal lk6.choose_spec.2, lk6.same sm, (same_tf sm).sq ht6, ks6.same sm, st6.same sm, f6.trans (F3.s sm)⟩
    clear lk6 ht6 ks6 st6 f6
    obtain ⟨al, rfl, ka7, nal0, nae, nak, nas, nal, lk7, ht7, ks7, st7, f7⟩ := hP
    refine seq_cut (fun σ' H' => σ' = [some (.ref d), some g, some (.ref wa), some (.ref wt), some (.int (s : Int)), some (.ref ea), some (.ref kd), some (.int dx), some (.int dy), some (.ref sd), some (.ref t1), some (.ref a), some (.ref al), some (.int (restF G sl s)), none, none, none] ∧ KSet H' al pA ∧ LkAt K H' a wt ld pL ∧ SqT K H' t1 (nV L) ∧ KSet H' sd pL ∧ LSt K H' d g wa wt ea eld kd G sl wv wd p ∧ F3 d eld kd H H') (fun σ' H8 hP => ?_) (fun R hR => ?_)
    rotate_left
    · obtain ⟨k0, hk0⟩ := ka7.dict
      refine ⟨_, rfl, _, rfl, _, rfl, _, rfl, g, wa, al, G, sl, s, t, _, rfl, st7.gm, st7.ok, st7.sa, s16, hst, st7.ws.wl, ka7, fun H9 f9 ka9 => ?_⟩
      obtain ⟨dxa, haa, hkl⟩ := id lk7
      exact hR _ _ ⟨rfl, by rw [hpA]; exact ka9, ⟨dxa, f9 _ _ (fun e => by rw [e, hk0] at haa; cases haa) haa, hkl.frm f9 (Ne.symm nal)⟩, (Frm.tfk f9 hk0).sq ht7, ks7.frm f9 (Ne.symm nas), st7.oth f9 hk0 nae nak, F3.fr f7 nal0 f9⟩
    clear ka7 lk7 ht7 ks7 st7 f7
    obtain ⟨rfl, ka8, lk8, ht8, ks8, st8, f8⟩ := hP
    refine seq_cut (fun σ' H' => ∃ (b lb : Addr), σ' = [some (.ref d), some g, some (.ref wa), some (.ref wt), some (.int (s : Int)), some (.ref ea), some (.ref kd), some (.int dx), some (.int dy), some (.ref sd), some (.ref t1), some (.ref a), some (.ref al), some (.int (restF G sl s)), some (.ref b), none, none] ∧ LkAt K H' b wt lb (fun _ => False) ∧ lb ≠ eld ∧ lb ≠ kd ∧ lb ≠ sd ∧ lb ≠ ld ∧ lb ≠ al ∧ H lb = none ∧ KSet H' al pA ∧ LkAt K H' a wt ld pL ∧ SqT K H' t1 (nV L) ∧ KSet H' sd pL ∧ LSt K H' d g wa wt ea eld kd G sl wv wd p ∧ F3 d eld kd H H') (fun σ' H9 hP => ?_) (fun R hR => ?_)
    rotate_left
    · refine ⟨_, rfl, fun b dx' na ndx nda => ⟨b, dx', wt, rfl, upd_same, fun H14 lb lk14 fa nld => ⟨rfl, ?_⟩⟩⟩
      have sL := new_looks na ndx fa
      have nl12 := none_looks nld
      exact hR _ _ ⟨b, lb, rfl, lk14, nkey nl12 st8.ey.choose_spec.2, nkey nl12 st8.kn, nkey nl12 ks8, nkey nl12 lk8.choose_spec.2, nkey nl12 ka8, st8.n0 f8 nl12, ka8.same sL, lk8.same sL, (same_tf sL).sq ht8, ks8.same sL, st8.same sL, f8.trans (F3.s sL)⟩
    clear ka8 lk8 ht8 ks8 st8 f8
    obtain ⟨b, lb, rfl, lb9, m1, m2, m3, m4, m5, m0, ka9, lk9, ht9, ks9, st9, f9⟩ := hP
    refine seq_cut (fun σ' H' => σ' = [some (.ref d), some g, some (.ref wa), some (.ref wt), some (.int (s : Int)), some (.ref ea), some (.ref kd), some (.int dx), some (.int dy), some (.ref sd), some (.ref t1), some (.ref a), some (.ref al), some (.int (restF G sl s)), some (.ref b), none, none] ∧ KSet H' al pA ∧ LkAt K H' a wt ld pL ∧ SqT K H' t1 (nV L) ∧ KSet H' sd pL ∧ LSt K H' d g wa wt ea eld kd G sl wv wd p ∧ F3 d eld kd H H') (fun σ' H10 hP => ?_) (fun R hR => ?_)
    rotate_left
    · refine ⟨_, rfl, _, rfl, _, rfl, g, b, wt, lb, wv, G, sl, s, t, _, rfl, st9.gm, st9.ok, st9.sa, s16, hst, lb9, st9.wtt, fun H15 f15 lb15 => ⟨_, rfl, .int (restF G sl s), .int (restF G sl s), .int (restF G sl s), rfl, .int _, .int _, trivial, fun H16 s16' => ⟨true, rfl, iteF ?_⟩⟩⟩
      obtain ⟨kvl, hkl⟩ := lb9.choose_spec.2.dict
      have stX := (st9.oth f15 hkl m1 m2).same s16'
      have kaX := (ka9.frm f15 (Ne.symm m5)).same s16'
      have ksX := (ks9.frm f15 (Ne.symm m3)).same s16'
      have htX := (same_tf s16').sq ((lb9.tf f15).sq ht9)
      have lkX : LkAt K H16 a wt ld pL := by
        obtain ⟨dxa, haa, hl⟩ := lk9
        exact ⟨dxa, s16' _ _ (f15 _ _ (fun e => by rw [e, hkl] at haa; cases haa) haa), (hl.frm f15 (Ne.symm m4)).same s16'⟩
      have ep : ∀ c, restP G sl s (fun _ => False) c ↔ pA c := fun c => by
        rw [hpA]
        unfold restP
        simp
      have lbX := (lb15.imp ep).same s16'
      have fX := (F3.fr f9 m0 f15).trans (F3.s s16')
      obtain ⟨dxa, haa, _⟩ := id lbX
      have nl := al_nls stX.al
      refine ⟨_, rfl, b, dxa, _, rfl, haa, rfl, b, wt, lb, wv, wd, pA, rfl, lbX, stX.wtt.sq, stX.dd, nl, hpa, fun t5 ys H20 s20 yp ym dy' => ⟨_, rfl, _, rfl, wt, al, wv, wd, pA, rfl, kaX.same s20, (same_tf s20).sq stX.wtt.sq, dpa_nl (same_tf s20) _ _ nl stX.dd, nl, hpa, fun t6 zs H21 s21 zp zm dz => ?_⟩⟩
      have e : zs = ys := same_ys zp yp zm ym
      rw [e] at dz
      have al4 := seenD_al stX.al (ys_len yp ym kaX)
      refine ⟨.ref t5, .ref t6, seenD wd ys, rfl, dp_nl (same_tf s21) _ _ (alok_nl _ _ al4) dy', dz, al4, fun H22 s22 => ⟨true, rfl, iteF ?_⟩⟩
      have sZ := s20.trans (s21.trans s22)
      exact hR _ _ ⟨rfl, kaX.same sZ, lkX.same sZ, (same_tf sZ).sq htX, ksX.same sZ, stX.same sZ, fX.trans (F3.s sZ)⟩
    clear lb9 ka9 lk9 ht9 ks9 st9 f9
    obtain ⟨rfl, ka10, lk10, ht10, ks10, st10, f10⟩ := hP
    obtain ⟨pM, hpM⟩ : ∃ pM : Int → Prop, pM = fun c => pL c ∨ pA c := ⟨_, rfl⟩
    have hpm : ∀ c, pM c → 0 ≤ c ∧ c < (wv.length : Int) := fun c hc => by
      rw [hpM] at hc
      exact hc.elim (hpl c) (hpa c)
    refine seq_cut (fun σ' H' => ∃ v15 : Option V, σ' = [some (.ref d), some g, some (.ref wa), some (.ref wt), some (.int (s : Int)), some (.ref ea), some (.ref kd), some (.int dx), some (.int dy), some (.ref sd), some (.ref t1), some (.ref a), some (.ref al), some (.int (restF G sl s)), some (.ref b), v15, none] ∧ LkAt K H' a wt ld pL ∧ SqT K H' t1 (nV L) ∧ KSet H' sd pM ∧ LSt K H' d g wa wt ea eld kd G sl wv wd p ∧ F3 d eld kd H H') (fun σ' H11 hP => ?_) (fun R hR => ?_)
    rotate_left
    · obtain ⟨kva, ksa, hka, hkk, hnd, hmem, hcel⟩ := id ka10
      refine ⟨al, .dK kva, hka, trivial, fun od => ⟨_, rfl, al, od, rfl, .inl ⟨kva, upd_same, ?_⟩⟩⟩
      have hsd : ∀ {x : Option V}, True := fun {_} => trivial
      refine L2.for_it (walk_keys (d := al) (o := od) (kvs := kva)) (fun i σ H' => ∃ v15 : Option V, σ = [some (.ref d), some g, some (.ref wa), some (.ref wt), some (.int (s : Int)), some (.ref ea), some (.ref kd), some (.int dx), some (.int dy), some (.ref sd), some (.ref t1), some (.ref a), some (.ref al), some (.int (restF G sl s)), some (.ref b), v15, none] ∧ H' al = some (.frz od (.dK kva)) ∧ Frm sd (upd H10 al (.frz od (.dK kva))) H' ∧ KSet H' sd (fun c => pL c ∨ c ∈ ksa.take i)) ⟨_, rfl, upd_same, Frm.refl _ _, (ks10.keep (upd_ne (Ne.symm nas))).imp fun c => by rw [List.take_zero]; simp⟩ (fun i σ H' _ h => by obtain ⟨_, _, h, _⟩ := h; exact h) (fun i x σ H4 Hx hi hPv hy => ?_) (fun σ H4 hPv => ?_)
      · obtain ⟨v15, rfl, hal, fr, kx⟩ := hPv
        obtain ⟨rfl, k0, v0, hkv, rfl⟩ := hy
        have hki : (kva.map (·.1))[i]? = some k0 := by rw [List.getElem?_map, hkv]; rfl
        rw [hkk, List.getElem?_map] at hki
        cases hci : ksa[i]? with
        | none =>
          rw [hci] at hki
          cases hki
        | some c =>
          rw [hci] at hki
          injection hki with hki
          subst hki
          obtain ⟨kvs, hks⟩ := kx.dict
          refine ⟨_, rfl, _, rfl, sd, _, rfl, DPut.k (k := .inl c) hks (Nat.lt_of_le_of_lt (kx.len hks) (by decide)), ?_⟩
          refine ⟨_, rfl, by rw [upd_ne nas]; exact hal, fr.trans Frm.of_upd, (kset_put kx hks (hcel c (List.mem_of_getElem? hci))).imp fun c' => ?_⟩
          rw [List.take_add_one, hci, List.mem_append, or_assoc]
          simp
      · obtain ⟨v15, rfl, hal, fr, kx⟩ := hPv
        refine ⟨hal, ?_⟩
        have hl : kva.length = ksa.length := by
          have := congrArg List.length hkk
          rwa [List.length_map, List.length_map] at this
        have fA : Frm sd H10 (upd H4 al (.dK kva)) := fun x o n z => by
          by_cases e : x = al
          · rw [e, upd_same, ← hka, ← z, e]
          · rw [upd_ne e]
            exact fr _ _ n (by rw [upd_ne e]; exact z)
        obtain ⟨ks0, hks0⟩ := ks10.dict
        obtain ⟨dxa, haa, hkl⟩ := id lk10
        refine hR _ _ ⟨_, rfl, ⟨dxa, fA _ _ (fun e => by rw [e, hks0] at haa; cases haa) haa, hkl.frm fA nls⟩, (Frm.tfk fA hks0).sq ht10, (kx.keep (upd_ne (Ne.symm nas))).imp fun c => ?_, st10.oth fA hks0 nse nsk, F3.fr f10 nsd0 fA⟩
        rw [hl, List.take_length, hmem, hpM]
    clear ka10 lk10 ht10 ks10 st10 f10
    obtain ⟨v15, rfl, lk11, ht11, ks11, st11, f11⟩ := hP
    refine seq_cut (fun σ' H' => σ' = [some (.ref d), some g, some (.ref wa), some (.ref wt), some (.int (s : Int)), some (.ref ea), some (.ref kd), some (.int dx), some (.int dy), some (.ref sd), some (.ref t1), some (.ref a), some (.ref al), some (.int (restF G sl s)), some (.ref b), v15, none] ∧ LkAt K H' a wt ld pM ∧ SqT K H' t1 (nV L) ∧ KSet H' sd pM ∧ LSt K H' d g wa wt ea eld kd G sl wv wd p ∧ F3 d eld kd H H') (fun σ' H12 hP => ?_) (fun R hR => ?_)
    rotate_left
    · refine ⟨_, rfl, _, rfl, _, rfl, g, a, wt, ld, wv, G, sl, s, t, _, rfl, st11.gm, st11.ok, st11.sa, s16, hst, lk11, st11.wtt, fun H15 f15 lk15 => ⟨_, rfl, .int (restF G sl s), .int (restF G sl s), .int (restF G sl s), rfl, .int _, .int _, trivial, fun H16 s16' => ⟨true, rfl, iteF ?_⟩⟩⟩
      obtain ⟨kvl, hkl⟩ := lk11.choose_spec.2.dict
      have ep : ∀ c, restP G sl s pL c ↔ pM c := fun c => by
        rw [hpM, hpA]
        unfold restP
        rw [or_assoc]
      exact hR _ _ ⟨rfl, (lk15.imp ep).same s16', (same_tf s16').sq ((lk11.tf f15).sq ht11), (ks11.frm f15 (Ne.symm nls)).same s16', (st11.oth f15 hkl nl1 nl2).same s16', (F3.fr f11 nl0 f15).trans (F3.s s16')⟩
    clear lk11 ht11 ks11 st11 f11
    obtain ⟨rfl, lk12, ht12, ks12, st12, f12⟩ := hP
    refine seq_cut (fun σ' H' => σ' = [some (.ref d), some g, some (.ref wa), some (.ref wt), some (.int (s : Int)), some (.ref ea), some (.ref kd), some (.int dx), some (.int dy), some (.ref sd), some (.ref t1), some (.ref a), some (.ref al), some (.int (restF G sl s)), some (.ref b), v15, none] ∧ LkAt K H' a wt ld pM ∧ SqT K H' t1 (nV L) ∧ KSet H' sd pM ∧ LSt K H' d g wa wt ea eld kd G sl wv wd p ∧ F3 d eld kd H H') (fun σ' H13 hP => ?_) (fun R hR => ?_)
    rotate_left
    · obtain ⟨dxa, haa, _⟩ := id lk12
      have nl := al_nls st12.al
      refine ⟨_, rfl, a, dxa, _, rfl, haa, rfl, a, wt, ld, wv, wd, pM, rfl, lk12, st12.wtt.sq, st12.dd, nl, hpm, fun t5 ys H20 s20 yp ym dy' => ⟨_, rfl, _, rfl, wt, sd, wv, wd, pM, rfl, ks12.same s20, (same_tf s20).sq st12.wtt.sq, dpa_nl (same_tf s20) _ _ nl st12.dd, nl, hpm, fun t6 zs H21 s21 zp zm dz => ?_⟩⟩
      have e : zs = ys := same_ys zp yp zm ym
      rw [e] at dz
      have al4 := seenD_al st12.al (ys_len yp ym ks12)
      refine ⟨.ref t5, .ref t6, seenD wd ys, rfl, dp_nl (same_tf s21) _ _ (alok_nl _ _ al4) dy', dz, al4, fun H22 s22 => ⟨true, rfl, iteF ?_⟩⟩
      have sZ := s20.trans (s21.trans s22)
      exact hR _ _ ⟨rfl, lk12.same sZ, (same_tf sZ).sq ht12, ks12.same sZ, st12.same sZ, f12.trans (F3.s sZ)⟩
    clear lk12 ht12 ks12 st12 f12
    obtain ⟨rfl, lk13, ht13, ks13, st13, f13⟩ := hP
    obtain ⟨kvk, hkk⟩ := st13.kn.dict
    obtain ⟨kvs, hks⟩ := ks13.dict
    have lenk := st13.kn.len hkk
    have lens := ks13.len hks
    refine seq_cut (fun σ' H' => σ' = [some (.ref d), some g, some (.ref wa), some (.ref wt), some (.int (s : Int)), some (.ref ea), some (.ref kd), some (.int dx), some (.int dy), some (.ref sd), some (.ref t1), some (.ref a), some (.ref al), some (.int (restF G sl s)), some (.ref b), v15, none] ∧ H' = upd H13 kd (.dK (KU.mergeV kvk kvs))) (fun σ' H14 hP => ?_) (fun R hR => ?_)
    rotate_left
    · exact ⟨_, rfl, .inr (.inr (.inl ⟨rfl, .inl ⟨_, hkk⟩⟩)), _, rfl, kd, sd, kvk, kvs, rfl, rfl, hkk, hks, Ne.symm nsk, Nat.le_trans (show kvk.length + kvs.length ≤ 1000 by omega) (by decide), hR _ _ ⟨rfl, rfl⟩⟩
    obtain ⟨rfl, hH14⟩ := hP
    have fu : Frm kd H13 H14 := by rw [hH14]; exact Frm.of_upd
    have ks14 : KSet H14 kd (fun c => p c ∨ pM c) := by rw [hH14]; exact kset_merge st13.kn ks13 hkk hks
    have fu3 : F3 d eld kd H13 H14 := F3.c fu
    have tf14 := st13.tf fu3
    obtain ⟨q1, hq1⟩ : ∃ q1 : Int → Prop, q1 = fun c => (p c ∨ pM c) ∨ lotS G sl (-dx) (-dy) 16 [s] 0 c := ⟨_, rfl⟩
    obtain ⟨L2', hL2⟩ : ∃ l, l = lotR G sl (-dx) (-dy) s := ⟨_, rfl⟩
    have Ll2 : L2'.length ≤ 16 := by
      rw [hL2, lotR]
      unfold lotV
      split
      · exact Nat.zero_le _
      · exact Nat.le_trans (List.length_filter_le _ _) (by rw [List.length_range]; exact Nat.le_refl _)
    have hws14 : WlAt K H14 wa sl := by
      obtain ⟨wl0, hw0, _⟩ := id st13.ws
      exact (st13.ws.tf tf14 (by rw [hw0]; exact fu _ _ (fun e => by rw [e, hkk] at hw0; cases hw0) hw0)).wl
    refine seq_cut (fun σ' H' => ∃ t7 : Addr, σ' = [some (.ref d), some g, some (.ref wa), some (.ref wt), some (.int (s : Int)), some (.ref ea), some (.ref kd), some (.int dx), some (.int dy), some (.ref sd), some (.ref t1), some (.ref a), some (.ref al), some (.int (restF G sl s)), some (.ref b), v15, some (.ref t7)] ∧ SqT K H' t7 (nV L2') ∧ KSet H' kd q1 ∧ F3 d eld kd H13 H' ∧ Frm kd H13 H') (fun σ' H15 hP => ?_) (fun R hR => ?_)
    rotate_left
    · obtain ⟨k0, hk0⟩ := ks14.dict
      refine ⟨_, rfl, _, rfl, _, rfl, _, rfl, _, rfl, _, rfl, _, rfl, _, rfl, g, wa, kd, G, sl, s, t, -dx, -dy, _, rfl, dirs_neg hdd, st13.gm.tf tf14, st13.ok, st13.sa, s16, hst, hws14, ks14, fun q H4 f4 ks4 hq nq => ⟨q, _, rfl, .inl ⟨SqL.of hq, fun t7 nt7 => ?_⟩⟩⟩
      have s5 := new_same (o := .tup (nV (lotR G sl (-dx) (-dy) s))) nt7
      exact hR _ _ ⟨t7, rfl, by rw [hL2]; exact SqT.of upd_same, by rw [hq1]; exact ks4.same s5, fu3.trans ((F3.c f4).trans (F3.s s5)), fu.trans (f4.trans (Frm.of_same s5))⟩
    obtain ⟨t7, rfl, ht15, ks15, g15, fk15⟩ := hP
    have tf15 := st13.tf g15
    have lke15 : LkAt K H15 ea wt eld p := by
      obtain ⟨dx', ha, he⟩ := st13.ey
      exact ⟨dx', fk15 _ _ (fun e => by rw [e, hkk] at ha; cases ha) ha, he.frm fk15 st13.ne⟩
    have lk15 := st13.exl g15 lk13 nl1 nl2
    have pot15 : Pot H15 d := st13.pot.keep (by
      obtain ⟨xs, z⟩ := st13.pot.lst
      rw [z]
      exact fk15 _ _ (fun e => by rw [e, hkk] at z; cases z) z)
    have ht15d := tf15.sq ht13
    obtain ⟨ke0, hke0⟩ := lke15.choose_spec.2.dict
    refine ⟨_, rfl, _, rfl, _, rfl, _, rfl, _, rfl, g, ea, wt, eld, wv, G, sl, s, t, dx, dy, p, rfl, hdd, st13.gm.tf tf15, st13.ok, st13.sa, s16, hst, lke15, st13.wtt.tf tf15, fun t8 H16 f16 lk16 ht8 => ⟨_, rfl, .ref t8, .ref t1, bkD L, rfl, bkD_dp (by rw [hL]; exact ht8), bkD_dp ((lke15.tf f16).sq ht15d), bkD4 _ Ll, fun H17 s17 => ⟨true, rfl, iteF ?_⟩⟩⟩
    have lke17 := lk16.same s17
    have f17 : Frm eld H15 H17 := f16.trans (Frm.of_same s17)
    have tf17 := tf15.trans (lke15.tf f17)
    refine ⟨_, rfl, _, rfl, _, rfl, _, rfl, _, rfl, _, rfl, _, rfl, g, ea, wt, eld, wv, G, sl, s, t, -dx, -dy, _, rfl, dirs_neg hdd, st13.gm.tf tf17, st13.ok, st13.sa, s16, hst, lke17, st13.wtt.tf tf17, fun t9 H18 f18 lk18 ht9 => ⟨_, rfl, .ref t9, .ref t7, bkD L2', rfl, bkD_dp (by rw [hL2]; exact ht9), bkD_dp ((lke17.tf f18).sq ((lke15.tf f17).sq ht15)), bkD4 _ Ll2, fun H19 s19 => ⟨true, rfl, iteF ?_⟩⟩⟩
    have lke19 := lk18.same s19
    have f19 : Frm eld H15 H19 := f17.trans (f18.trans (Frm.of_same s19))
    have tf19 := tf15.trans (lke15.tf f19)
    refine ⟨_, rfl, _, rfl, _, rfl, g, ea, wt, eld, wv, G, sl, s, t, _, rfl, st13.gm.tf tf19, st13.ok, st13.sa, s16, hst, lke19, st13.wtt.tf tf19, fun H20 f20 lk20 => ⟨_, rfl, .int (restF G sl s), .int (restF G sl s), .int (restF G sl s), rfl, .int _, .int _, trivial, fun H21 s21 => ⟨true, rfl, iteT ?_⟩⟩⟩
    have lke21 := lk20.same s21
    have f21 : Frm eld H15 H21 := f19.trans (f20.trans (Frm.of_same s21))
    have g21 : F3 d eld kd H13 H21 := g15.trans (F3.b f21)
    have pot21 : Pot H21 d := pot15.keep (by
      obtain ⟨xs, z⟩ := pot15.lst
      rw [z]
      exact f21 _ _ (fun e => by rw [e, hke0] at z; cases z) z)
    have ep : ∀ c, restP G sl s (lotP G sl (-dx) (-dy) s (lotP G sl dx dy s p)) c ↔ q1 c := fun c => by
      rw [hq1, hpM, hpL, hpA]
      unfold restP lotP
      by_cases h1 : p c <;> by_cases h2 : c = (s : Int) <;> by_cases h3 : lotS G sl dx dy 16 [s] 0 c <;> by_cases h4 : lotS G sl (-dx) (-dy) 16 [s] 0 c <;> by_cases h5 : restS G sl s c <;> simp [h1, h2, h3, h4, h5]
    have st21 := st13.mv g21 pot21 (lke21.choose_spec.2.imp ep) (ks15.frm f21 (Ne.symm st13.ne))
    have lk21 := st13.exl g21 lk13 nl1 nl2
    have ht21 := (lke15.tf f21).sq ht15d
    refine ⟨_, rfl, _, rfl, _, rfl, _, rfl, _, rfl, g, a, wt, ld, wv, G, sl, s, t, dx, dy, _, rfl, hdd, st21.gm, st21.ok, st21.sa, s16, hst, lk21, st21.wtt, fun t10 H22 f22 lk22 ht10 => ⟨_, rfl, .ref t10, .ref t1, bkD L, rfl, bkD_dp (by rw [hL]; exact ht10), bkD_dp ((lk21.tf f22).sq ht21), bkD4 _ Ll, fun H23 s23 => ?_⟩⟩
    obtain ⟨kvl, hkl⟩ := lk21.choose_spec.2.dict
    exact k q1 H23 ((F3.fr (f13.trans g21) nl0 f22).trans (F3.s s23)) ((st21.oth f22 hkl nl1 nl2).same s23) fun c hc => by
      rw [hq1] at hc
      exact hc.elim (fun z => z.elim (hb0 c) (hpm c)) (lotS_lt st.ok st.sa (dirs_neg hdd) st.wtt.len _ _ _)
end
end K22
set_option maxRecDepth 100000
set_option maxHeartbeats 4000000
/-! The law. -/
namespace K22
open PySem PySem.Spec PyProof.Rows L2 KF KD KP
def spLaw (K : PySem.W.Frag) : Sp := fun vs H Q _ => ∃ (a : Addr) (ns : List Int), vs = [.ref a] ∧ SqL K H a (ns.map V.int) ∧ ns.length ≤ 63 ∧ ∀ H', Q (.bl true) H'
section
variable {P : Program} {w : World} {K : PySem.W.Frag} {mg : Str → Option Value} {base : Heap}
theorem scLaw : FnScope ["script", "pot", "kinds", "game", "w", "world", "standing", "eyes", "known", "turn", "slot", "k"] ["script"] (defScope s_law) := ⟨rfl, rfl, rfl, by decide +kernel, rfl, by decide +kernel, by decide +kernel⟩
theorem ok_law (T : Txt K w mg) : FnOk P w K mg base CX0 12 (He.fAd K ("law", none)) (fdAt K (He.fAd K ("law", none))) ["script"] (spLaw K) := by
  refine T.F_law.ok scLaw (fun vs H Q E h => ?_) (fun cdv A outer s H vs Q E hr h => ?_)
  · obtain ⟨a, ns, rfl, _⟩ := h
    rfl
  · obtain ⟨a, ns, rfl, hsc, n63, k⟩ := h
    refine ⟨_, PSs.nox (pss_cons (ps_set (i := 1) scLaw.nd rfl (Or.inr rfl) (pe_op op_cat (pe_lst (pa_cons pe_int (pa_cons pe_int (pa_cons pe_int pa_nil)))) (pe_callTy call_list_of (by rfl) T.n_list PyProof.Rows.Boot.«list» (pa_cons (pv 0) pa_nil))))
      (pss_cons (ps_set (i := 2) scLaw.nd rfl (Or.inl rfl) (pe_callTy call_tuple_of (by rfl) T.n_tuple PyProof.Rows.Boot.«tuple» (pa_cons (pe_lc (own := [("k", 11)]) (g := gName 11) (tt := tYes) (by rfl) scLaw.nd (pi_range1 (by rfl) T.n_range (pa_cons (pe_op op_add pe_int (pe_call (ok_law_take T) (hr.mono (by first | decide | omega)) (by rfl) T.g_law_take (T.F_law_take).kp T.b_law_take .nil pass0 (pa_cons (pv 1) (pa_cons pe_int pa_nil)))) pa_nil)) (blkOk_by (own := [("k", 11)]) (N := ["script", "pot", "kinds", "game", "w", "world", "standing", "eyes", "known", "turn", "slot", "k"]) (sc := defScope s_law) (by decide +kernel)) (fun _ _ _ _ _ => pg_name (i := 11) scLaw.nd rfl (Or.inl rfl)) (fun _ _ _ _ _ => pts_nil) (fun _ _ _ _ _ => (pe_call (ok_law_kind T) (hr.mono (by first | decide | omega)) (by rfl) T.g_law_kind (T.F_law_kind).kp T.b_law_kind .nil pass0 (pa_cons (pv 1) (pa_cons (pv 11) (pa_cons (pe_tup pa_nil) pa_nil)))))) pa_nil)))
      (pss_cons (ps_set (i := 3) scLaw.nd rfl (Or.inl rfl) (pe_call (ok_law_game T) (hr.mono (by first | decide | omega)) (by rfl) T.g_law_game (T.F_law_game).kp T.b_law_game .nil pass0 (pa_cons (pv 1) (pa_cons (pv 2) (pa_cons pe_int pa_nil)))))
      (pss_cons (ps_set (i := 4) scLaw.nd rfl (Or.inr rfl) (pe_call (ok_law_start T) (hr.mono (by first | decide | omega)) (by rfl) T.g_law_start (T.F_law_start).kp T.b_law_start .nil pass0 (pa_cons (pv 1) (pa_cons (pv 3) (pa_cons (pe_ix (r := rIxL K) ix_list (pe_lst (pa_cons pe_int (pa_cons pe_int (pa_cons pe_int (pa_cons pe_int pa_nil))))) (pe_call (ok_law_take T) (hr.mono (by first | decide | omega)) (by rfl) T.g_law_take (T.F_law_take).kp T.b_law_take .nil pass0 (pa_cons (pv 1) (pa_cons pe_int pa_nil))) (fun _ _ => rfl)) pa_nil)))))
      (pss_cons (ps_set (i := 3) scLaw.nd rfl (Or.inl rfl) (pe_call (ok_law_with_starts T) (hr.mono (by first | decide | omega)) (by rfl) T.g_law_with_starts (T.F_law_with_starts).kp T.b_law_with_starts .nil pass0 (pa_cons (pv 1) (pa_cons (pv 3) (pa_cons (pv 4) pa_nil)))))
      (pss_cons (ps_set (i := 5) scLaw.nd rfl (Or.inl rfl) (pe_call (ok_law_world T) (hr.mono (by first | decide | omega)) (by rfl) T.g_law_world (T.F_law_world).kp T.b_law_world .nil pass0 (pa_cons (pv 3) (pa_cons (pv 4) pa_nil))))
      (pss_cons (ps_setLc (i := 6) (own := [("slot", 10)]) (g := gName 10) (by rfl) scLaw.nd rfl rfl (sw_true rfl rfl rfl (by decide +kernel)) (pi_range1 (by rfl) T.n_range (pa_cons pe_int pa_nil)) (blkOk_by (own := [("slot", 10)]) (N := ["script", "pot", "kinds", "game", "w", "world", "standing", "eyes", "known", "turn", "slot", "k"]) (sc := defScope s_law) (by decide +kernel)) (fun _ _ _ _ _ => pg_name (i := 10) scLaw.nd rfl (Or.inl rfl)) (fun _ _ _ _ _ => pts_one (pt_cmpR op_notN (pe_ix (r := rIxL K) ix_list (pv 4) (pv 10) (fun _ _ => rfl)) pe_non (nomark _))) (fun _ _ _ _ _ => (pv 10)))
      (pss_cons (ps_par (i := 7) (j := 8) (by rfl) scLaw.nd rfl rfl (by decide) rfl rfl (pa_cons (pe_make T.m_Looks (ok_Looks_init T) (hr.mono (by decide)) (by rfl) T.g_Looks T.b_Looks_init .nil pass0 (pa_cons (pv 5) pa_nil)) (pa_cons pe_dnewK pa_nil)) (by rfl))
      (pss_cons (ps_for PassesOwn.never rfl (pi_range1 (by rfl) T.n_range (pa_cons pe_int pa_nil)) (pg_name (i := 9) scLaw.nd rfl (Or.inl rfl)) (pss_cons (ps_if (pt_not (pt_val (pe_call (ok_law_meeting T) (hr.mono (by first | decide | omega)) (by rfl) T.g_law_meeting (T.F_law_meeting).kp T.b_law_meeting .nil pass0 (pa_cons (pv 1) (pa_cons (pv 3) (pa_cons (pv 4) (pa_cons (pv 5) (pa_cons (pv 7) (pa_cons (pv 8) pa_nil))))))))) (pss_one (ps_ret pe_bl)) pss_nil)
      (pss_one (ps_if (pt_cmpR (r := rNeNil K false) (op_neNil hr.units) (pv 6) (pe_lst pa_nil) (nomark _)) (pss_cons (ps_set (i := 10) scLaw.nd rfl (Or.inl rfl) (pe_ix (r := rIxL K) ix_list (pv 6) (pe_call (ok_law_take T) (hr.mono (by first | decide | omega)) (by rfl) T.g_law_take (T.F_law_take).kp T.b_law_take .nil pass0 (pa_cons (pv 1) (pa_cons (pe_callB (r := Evl.rLenS K) call_len_seq (by rfl) T.n_len PyProof.Rows.Boot.«len» (pa_cons (pv 6) pa_nil)) pa_nil))) (fun _ _ => rfl)))
      (pss_one (ps_if (pt_not (pt_val (pe_call (ok_law_lots T) (hr.mono (by first | decide | omega)) (by rfl) T.g_law_lots (T.F_law_lots).kp T.b_law_lots .nil pass0 (pa_cons (pv 1) (pa_cons (pv 3) (pa_cons (pv 4) (pa_cons (pv 5) (pa_cons (pv 10) (pa_cons (pv 7) (pa_cons (pv 8) pa_nil)))))))))) (pss_one (ps_ret pe_bl)) pss_nil))) pss_nil))))
      (pss_one (ps_ret (pe_call (ok_law_same T 5) (hr.mono (by first | decide | omega)) (by rfl) T.g_law_same (T.F_law_same).kp T.b_law_same .nil pass0 (pa_cons (pe_meth0 (pv 7) T.k_Looks T.e_Looks_seen (ok_Looks_seen T) (hr.mono (by decide)) T.b_Looks_seen .nil pass0) (pa_cons (pe_call (ok_law_seen T) (hr.mono (by first | decide | omega)) (by rfl) T.g_law_seen (T.F_law_seen).kp T.b_law_seen .nil pass0 (pa_cons (pv 5) (pa_cons (pv 8) pa_nil))) pa_nil)))))))))))))), ?_⟩
    refine seq_cut (fun σ' H' => ∃ d : Addr, σ' = [some (.ref a), some (.ref d), none, none, none, none, none, none, none, none, none, none] ∧ Pot H' d) (fun σ' H1 hP => ?_) (fun R hR => ?_)
    rotate_left
    · refine ⟨(show 3 ≤ sizeLine by decide), fun p0 np0 => ⟨_, rfl, a, ns.map V.int, rfl, .inl ?_, fun p1 np1 => ?_⟩⟩
      · exact Same.seq (new_same np0) hsc
      · refine ⟨p0, p1, [V.int 0, .int 7, .int 3], ns.map V.int, rfl, rfl, (new_same np1) _ _ upd_same, upd_same, Nat.le_trans (show 3 + (ns.map V.int).length ≤ 100 by rw [List.length_map]; omega) (by decide), fun d nd => ?_⟩
        exact hR _ _ ⟨d, rfl, 0, 7, 3, ns, upd_same, by decide, by decide, by decide, by decide, by decide, n63⟩
    obtain ⟨d, rfl, d1⟩ := hP
    refine seq_cut (fun σ' H' => ∃ (t : Addr) (kv : List V) (kds : List Kd), σ' = [some (.ref a), some (.ref d), some (.ref t), none, none, none, none, none, none, none, none, none] ∧ SqT K H' t kv ∧ kv.length = kds.length ∧ 1 ≤ kds.length ∧ KdsOk kds ∧ (∀ (i : Nat) (k : Kd), kds[i]? = some k → ∃ x : V, kv[i]? = some x ∧ KdAt K H' x k) ∧ Pot H' d) (fun σ' H2 hP => ?_) (fun R hR => ?_)
    rotate_left
    · refine ⟨_, rfl, d, 8, rfl, by decide, by decide, d1, fun z H2 z0 z1 f2 d2 => ⟨_, _, rfl, rfl, _, rfl, by omega, by omega, fun D hD => ?_⟩⟩
      have Dd := d2.ne hD
      refine lc_it (walk_r0 (n := (1 + z).toNat)) (fun i H' => ∃ (kv : List V) (kds : List Kd), Pot H' d ∧ H' D = some (.lst kv) ∧ kv.length = i ∧ kds.length = i ∧ (∀ k ∈ kds, 1 ≤ k.w ∧ k.w ≤ 16 ∧ 1 ≤ k.h ∧ k.h ≤ 16 ∧ k.tr.length ≤ 5) ∧ ∀ (i : Nat) (k : Kd), kds[i]? = some k → ∃ x : V, kv[i]? = some x ∧ KdAt K H' x k) ⟨[], [], d2.upd Dd, upd_same, rfl, rfl, fun _ m => (List.not_mem_nil m).elim, fun _ _ z => by cases z⟩ (fun _ _ _ _ => trivial) (fun i v H5 Hz hi h yy => ?_) (fun H5 h => ?_)
      · obtain ⟨rfl, rfl⟩ := yy
        obtain ⟨kv, kds, d5, hl, l1, l2, hk, hx⟩ := h
        refine ⟨rfl, ?_⟩
        dsimp only [tYes]
        rw [if_pos rfl]
        refine ⟨_, rfl, _, rfl, (show 0 ≤ sizeLine by decide), fun e ne => ?_⟩
        have se := new_same (o := .tup []) ne
        refine ⟨d, i, _, rfl, by omega, d5.same se, fun q kd H7 f7 d7 hkd hb => ?_⟩
        have hl7 := f7 _ _ Dd (se _ _ hl)
        have tf := (same_tf se).trans ((pot_tf f7 (d5.same se)).trans (TF.lst1 (o := .lst (kv ++ [.ref q])) hl7))
        refine ⟨kv, hl7, Nat.lt_of_lt_of_le (show kv.length < 100 by omega) (by decide), kv ++ [.ref q], kds ++ [kd], d7.upd Dd, upd_same, by simp [l1], by simp [l2], fun k m => ?_, fun j k hj => ?_⟩
        · rcases List.mem_append.mp m with m | m
          · exact hk k m
          · rw [List.mem_singleton.mp m]
            exact hb
        · by_cases c : j < kds.length
          · rw [List.getElem?_append_left c] at hj
            obtain ⟨x, g1, g2⟩ := hx j k hj
            exact ⟨x, by rw [List.getElem?_append_left (by omega)]; exact g1, g2.tf tf⟩
          · rw [List.getElem?_append_right (by omega)] at hj
            rw [List.getElem?_append_right (by omega)]
            have e0 : j - kds.length = 0 := by
              cases hd : j - kds.length with
              | zero => rfl
              | succ n => rw [hd] at hj; cases hj
            rw [e0] at hj
            rw [show j - kv.length = 0 by omega]
            injection hj with hj
            subst hj
            exact ⟨_, rfl, hkd.tf (TF.lst1 (o := .lst (kv ++ [.ref q])) hl7)⟩
      · obtain ⟨kv, kds, d5, hl, l1, l2, hk, hx⟩ := h
        refine ⟨D, _, rfl, .inl ⟨SqL.of hl, fun t nt => ?_⟩⟩
        have s6 := new_same (o := .tup kv) nt
        exact hR _ _ ⟨t, kv, kds, rfl, SqT.of upd_same, by omega, by omega, ⟨by omega, hk⟩, fun i k z => by obtain ⟨x, g1, g2⟩ := hx i k z; exact ⟨x, g1, g2.tf (same_tf s6)⟩, d5.same s6⟩
    clear d1
    obtain ⟨t, kv, kds, rfl, ht, kl, k1, kok, hkv, d2⟩ := hP
    refine seq_cut (fun σ' H' => ∃ (g : V) (G : Gm), σ' = [some (.ref a), some (.ref d), some (.ref t), some g, none, none, none, none, none, none, none, none] ∧ G.ok ∧ 1 ≤ G.kds.length ∧ GmAt K H' g G ∧ Pot H' d) (fun σ' H3 hP => ?_) (fun R hR => ?_)
    rotate_left
    · refine ⟨_, rfl, _, rfl, d, .ref t, 12, ⟨[], 0, 0, kds⟩, rfl, by decide, by decide, kok, ⟨t, kv, rfl, ht, kl, hkv⟩, d2, fun g G H3 f3 d3 o e hg => hR _ _ ⟨g, G, rfl, o, by rw [e]; exact k1, hg, d3⟩⟩
    clear ht hkv d2
    obtain ⟨g, G, rfl, o, g1, hg, d3⟩ := hP
    refine seq_cut (fun σ' H' => ∃ (wa : Addr) (sl : List (Option Tg)), σ' = [some (.ref a), some (.ref d), some (.ref t), some g, some (.ref wa), none, none, none, none, none, none, none] ∧ WsD K H' wa sl ∧ SlAll G sl ∧ wa ≠ d ∧ GmAt K H' g G ∧ Pot H' d) (fun σ' H4 hP => ?_) (fun R hR => ?_)
    rotate_left
    · refine ⟨_, rfl, _, rfl, (show 4 ≤ sizeLine by decide), fun pl npl => ?_⟩
      have s4 := new_same (o := .lst [V.int 3, .int 6, .int 10, .int 30]) npl
      refine ⟨_, rfl, d, 4, rfl, by decide, by decide, d3.same s4, fun z H5 z0 z1 f5 d5 => ?_⟩
      have pld := d3.ne npl
      obtain ⟨m, hm, m0, m1⟩ : ∃ m : Int, atI [V.int 3, .int 6, .int 10, .int 30] z = some (.int m) ∧ 0 ≤ m ∧ m ≤ 100 := by
        obtain ⟨n, rfl⟩ := Int.eq_ofNat_of_zero_le z0
        have hn : n = 0 ∨ n = 1 ∨ n = 2 ∨ n = 3 := by omega
        rcases hn with rfl | rfl | rfl | rfl
        · exact ⟨3, atI_nat rfl, by decide, by decide⟩
        · exact ⟨6, atI_nat rfl, by decide, by decide⟩
        · exact ⟨10, atI_nat rfl, by decide, by decide⟩
        · exact ⟨30, atI_nat rfl, by decide, by decide⟩
      have hg5 := hg.tf ((same_tf s4).trans (pot_tf f5 (d3.same s4)))
      exact ⟨pl, _, _, _, rfl, rfl, SqL.of (f5 _ _ pld upd_same), hm, d, g, G, m, rfl, m0, m1, d5, hg5, o, g1, fun wa sl H6 f6 d6 hw sa wn => hR _ _ ⟨wa, sl, rfl, hw, sa, wn, hg5.tf (pot_tf f6 d5), d6⟩⟩
    clear hg d3
    obtain ⟨wa, sl, rfl, hw4, sa, wn, hg4, d4⟩ := hP
    refine seq_cut (fun σ' H' => ∃ g : V, σ' = [some (.ref a), some (.ref d), some (.ref t), some g, some (.ref wa), none, none, none, none, none, none, none] ∧ WsD K H' wa sl ∧ GmAt K H' g G ∧ Pot H' d) (fun σ' H5 hP => ?_) (fun R hR => ?_)
    rotate_left
    · exact ⟨_, rfl, _, rfl, _, rfl, d, wa, g, G, sl, rfl, d4, hg4, sa, hw4.wl, fun v H5 f5 d5 hg5 => hR _ _ ⟨v, rfl, hw4.frm d4 f5 wn, hg5, d5⟩⟩
    clear hg4 hw4 d4
    obtain ⟨g, rfl, hw5, hg5, d5⟩ := hP
    refine seq_cut (fun σ' H' => ∃ (wt : Addr) (wv : List V) (wd : List PyData), σ' = [some (.ref a), some (.ref d), some (.ref t), some g, some (.ref wa), some (.ref wt), none, none, none, none, none, none] ∧ WtAt K H' wt wv G sl ∧ DpAll K H' wv wd ∧ (∀ e ∈ wd, AlOk 2 e) ∧ WsD K H' wa sl ∧ GmAt K H' g G ∧ Pot H' d) (fun σ' H6 hP => ?_) (fun R hR => ?_)
    rotate_left
    · obtain ⟨wd0, hwd⟩ := hw5.wd
      exact ⟨_, rfl, _, rfl, g, wa, G, sl, wd0, rfl, hg5, o, sa, hwd, fun wt wv wd H6 s6 hwt hdd hal => hR _ _ ⟨wt, wv, wd, rfl, hwt, hdd, hal, hw5.same s6, hg5.tf (same_tf s6), d5.same s6⟩⟩
    clear hg5 hw5 d5
    obtain ⟨wt, wv, wd, rfl, hwt, hdd, hal, hw6, hg6, d6⟩ := hP
    refine seq_cut (fun σ' H' => ∃ (sa' : Addr) (stl : List Nat), σ' = [some (.ref a), some (.ref d), some (.ref t), some g, some (.ref wa), some (.ref wt), some (.ref sa'), none, none, none, none, none] ∧ sa' ≠ d ∧ H' sa' = some (.lst (nV stl)) ∧ stl.length ≤ 16 ∧ (∀ s ∈ stl, s < 16 ∧ ∃ t, sl[s]? = some (some t)) ∧ Same H6 H') (fun σ' H7 hP => ?_) (fun R hR => ?_)
    rotate_left
    · obtain ⟨wlv, hwl, wll, hwx, hwd⟩ := id hw6
      refine ⟨_, rfl, by decide, by decide, fun D hD => ?_⟩
      refine lc_it (walk_r0 (n := 16)) (fun i H' => ∃ us : List Nat, Same H6 H' ∧ H' D = some (.lst (nV us)) ∧ us.length ≤ i ∧ ∀ s ∈ us, s < 16 ∧ ∃ t, sl[s]? = some (some t)) ⟨[], new_same hD, upd_same, Nat.le_refl _, fun _ m => (List.not_mem_nil m).elim⟩ (fun _ _ _ _ => trivial) (fun i v H5 Hz hi h yy => ?_) (fun H5 h => ?_)
      · obtain ⟨rfl, rfl⟩ := yy
        obtain ⟨us, sm, hl, al, hus⟩ := h
        obtain ⟨so, hso⟩ : ∃ so, sl[i]? = some so := ⟨_, List.getElem?_eq_getElem (by rw [sa.len]; omega)⟩
        obtain ⟨v, hv1, hv2⟩ := hwx i so hso
        refine ⟨rfl, _, rfl, _, rfl, wa, _, _, _, rfl, rfl, SqL.of (sm _ _ hwl), atI_nat hv1, rfl, _, rfl, ?_⟩
        cases so with
        | none =>
          obtain rfl : v = .non := hv2
          exact iteF ⟨us, sm, hl, by omega, hus⟩
        | some t =>
          obtain ⟨ta, oa, rfl, _⟩ : TgX K H6 v t := hv2
          refine iteT ⟨_, rfl, _, hl, Nat.lt_of_le_of_lt (show (nV us).length ≤ 24 by unfold nV; rw [List.length_map]; omega) (by decide), us ++ [i], fun c o z => ?_, by rw [upd_same]; unfold nV; rw [List.map_append]; rfl, by rw [List.length_append]; simp only [List.length_cons, List.length_nil]; omega, fun s m => ?_⟩
          · rw [upd_ne (ne_of_none z hD)]
            exact sm _ _ z
          · rcases List.mem_append.mp m with m | m
            · exact hus s m
            · rw [List.mem_singleton.mp m]
              exact ⟨hi, t, hso⟩
      · obtain ⟨us, sm, hl, al, hus⟩ := h
        exact hR _ _ ⟨D, us, rfl, d6.ne hD, hl, al, hus, sm⟩
    obtain ⟨sa', stl, rfl, sd', hst, stlen, hstl, s7⟩ := hP
    have d7 := d6.same s7
    have hg7 := hg6.tf (same_tf s7)
    have hw7 := hw6.same s7
    have hwt7 := hwt.tf (same_tf s7)
    have hdd7 := dpa_nl (same_tf s7) _ _ (al_nls hal) hdd
    clear d6 hg6 hw6 hwt hdd
    refine seq_cut (fun σ' H' => ∃ (ea eld kd : Addr), σ' = [some (.ref a), some (.ref d), some (.ref t), some g, some (.ref wa), some (.ref wt), some (.ref sa'), some (.ref ea), some (.ref kd), none, none, none] ∧ H' sa' = some (.lst (nV stl)) ∧ LSt K H' d g wa wt ea eld kd G sl wv wd (fun _ => False)) (fun σ' H8 hP => ?_) (fun R hR => ?_)
    rotate_left
    · refine ⟨_, rfl, fun ea dx' na ndx nda => ⟨ea, dx', wt, rfl, upd_same, fun H14 ld lk14 fa nld => ⟨rfl, ?_⟩⟩⟩
      have sL := new_looks na ndx fa
      refine fun kd nkd => ⟨_, _, rfl, hR _ _ ⟨ea, ld, kd, rfl, new_same nkd _ _ (sL _ _ hst), ?_⟩⟩
      have sM := sL.trans (new_same (o := .dK []) nkd)
      exact ⟨d7.same sM, hg7.tf (same_tf sM), o, sa, hw7.same sM, hwt7.tf (same_tf sM), dpa_nl (same_tf sM) _ _ (al_nls hal) hdd7, hal, lk14.same (new_same nkd), kset_nil upd_same, Ne.symm (nkey nkd lk14.choose_spec.2), wn⟩
    clear d7 hg7 hw7 hwt7 hdd7 hst
    obtain ⟨ea, eld, kd, rfl, hst8, st8⟩ := hP
    refine ⟨6, rfl, by decide, by decide, ?_⟩
    refine L2.for_it (walk_r0 (n := 6)) (fun i σ H' => ∃ (p : Int → Prop) (v9 v10 : Option V), σ = [some (.ref a), some (.ref d), some (.ref t), some g, some (.ref wa), some (.ref wt), some (.ref sa'), some (.ref ea), some (.ref kd), v9, v10, none] ∧ H' sa' = some (.lst (nV stl)) ∧ LSt K H' d g wa wt ea eld kd G sl wv wd p ∧ (∀ c, p c → 0 ≤ c ∧ c < (wv.length : Int))) ⟨_, _, _, rfl, hst8, st8, fun _ z => z.elim⟩ (fun _ _ _ _ _ => trivial) (fun i x σ H4 Hx hi hPv hy => ?_) (fun σ H4 hPv => ?_)
    · obtain ⟨p, v9, v10, rfl, hst, st, hb⟩ := hPv
      obtain ⟨rfl, rfl⟩ := hy
      have dk : ∀ {H' : Hp} {q : Int → Prop}, LSt K H' d g wa wt ea eld kd G sl wv wd q → H' sa' = some (.lst (nV stl)) → ∀ {H'' : Hp}, F3 d eld kd H' H'' → H'' sa' = some (.lst (nV stl)) := fun {H' q} st h {H''} f => by
        obtain ⟨_, _, z1⟩ := st.ey
        obtain ⟨k1, z1⟩ := z1.dict
        obtain ⟨k2, z2⟩ := st.kn.dict
        exact f _ _ sd' (fun e => by rw [e, z1] at h; cases h) (fun e => by rw [e, z2] at h; cases h) h
      refine ⟨_, rfl, _, rfl, _, rfl, _, rfl, _, rfl, _, rfl, d, g, wa, wt, ea, eld, kd, G, sl, wv, wd, p, rfl, st, hb, fun q H5 f5 st5 hb5 => ⟨_, rfl, iteF ?_⟩⟩
      have hst5 := dk st hst f5
      refine ⟨_, rfl, (show 0 ≤ sizeLine by decide), fun e ne => ?_⟩
      have se := new_same (o := .lst []) ne
      have ste := st5.same se
      have hste := se _ _ hst5
      have hdl : DL K (upd H5 e (.lst [])) (nV stl) := fun v m => by
        obtain ⟨n, _, rfl⟩ := List.mem_map.mp m
        exact int_al K _ _
      refine ne_nil hste upd_same hdl ⟨_, rfl, ite2 (fun z => ?_) (fun _ => ⟨q, _, _, rfl, hste, ste, hb5⟩)⟩
      have l1 : 1 ≤ stl.length := by
        cases stl with
        | nil => cases z
        | cons _ _ => exact Nat.succ_le_succ (Nat.zero_le _)
      have nl : (nV stl).length = stl.length := by unfold nV; rw [List.length_map]
      refine ⟨_, rfl, _, rfl, _, rfl, sa', _, rfl, .inl (SqL.of hste), d, _, rfl, by omega, by omega, ste.pot, fun j0 H6 j1 j2 f6 d6 => ?_⟩
      obtain ⟨j, rfl⟩ := Int.eq_ofNat_of_zero_le j1
      have st6 := ste.take f6 d6
      have hst6 := f6 _ _ sd' hste
      obtain ⟨s, hs⟩ : ∃ s, stl[j]? = some s := ⟨_, List.getElem?_eq_getElem (by omega)⟩
      obtain ⟨s16, t, htt⟩ := hstl s (List.mem_of_getElem? hs)
      have hat : (nV stl)[j]? = some (.int (s : Int)) := by
        unfold nV
        rw [List.getElem?_map, hs]
        rfl
      refine ⟨sa', _, _, _, rfl, rfl, SqL.of hst6, atI_nat hat, ?_⟩
      refine ⟨_, rfl, _, rfl, _, rfl, _, rfl, _, rfl, _, rfl, _, rfl, d, g, wa, wt, ea, eld, kd, G, sl, wv, wd, q, s, t, rfl, s16, htt, st6, hb5, fun q2 H7 f7 st7 hb7 => ⟨_, rfl, iteF ⟨q2, _, _, rfl, dk st6 hst6 f7, st7, hb7⟩⟩⟩
    · obtain ⟨p, v9, v10, rfl, hst, st, hb⟩ := hPv
      obtain ⟨dxa, haa, _⟩ := id st.ey
      have nl := al_nls st.al
      refine ⟨_, rfl, ea, dxa, _, rfl, haa, rfl, ea, wt, eld, wv, wd, p, rfl, st.ey, st.wtt.sq, st.dd, nl, hb, fun t5 ys H20 s20 yp ym dy => ⟨_, rfl, _, rfl, wt, kd, wv, wd, p, rfl, st.kn.same s20, (same_tf s20).sq st.wtt.sq, dpa_nl (same_tf s20) _ _ nl st.dd, nl, hb, fun t6 zs H21 s21 zp zm dz => ?_⟩⟩
      have e : zs = ys := same_ys zp yp zm ym
      rw [e] at dz
      have al4 := seenD_al st.al (ys_len yp ym st.kn)
      exact ⟨.ref t5, .ref t6, seenD wd ys, rfl, dp_nl (same_tf s21) _ _ (alok_nl _ _ al4) dy, dz, al4, fun H22 s22 => k H22⟩
end
end K22
set_option maxRecDepth 100000
set_option maxHeartbeats 0
open PySem PySem.W PySem.Calls PyProof.Rows
set_option maxHeartbeats 0 in
theorem PySem.Challenge.cw_latepresses_k22_whole_meeting_and_lots_holds : PySem.Challenge.rw_latepresses_k22_whole_meeting_and_lots.Holds := by
  w_on; o_law
  refine HandSHeadRun.head_any (r := K22.R) (q := view K22.R.prog [72]) (H := K22.hk) (ob := K22.ob) (M := 40000) (loose := K22.loose) (d := HandSHeadRun.topDef K22.R.prog 72) (kwd := []) K22.ob_eq
    (by kernel_rfl) (fun s => by kernel_rfl) K22.run (by kernel_rfl) (by kernel_rfl) (by kernel_rfl) (by rfl) (by first | assumption | decide +kernel) (by decide +kernel) ⟨rfl, rfl, rfl, rfl, rfl, by decide +kernel⟩ ?hw ?hc
  case hw => w_witness2
  case hc =>
    refine L2.walk_ofE (l := PySem.Challenge.rw_latepresses_k22_whole_meeting_and_lots) (n := 63) (k := 12) (x := "script") (CX := L2.CX0) rfl (by decide) (by kernel_rfl) ⟨rfl, by decide, by decide⟩ ?F (fun _ _ _ _ z => z)
    intro w mg fa h Y G hmg0
    obtain ⟨K, KX, c⟩ := Y
    have hmg : mg ("law" : PySem.Str) = some (.ref fa) := by
      have e : (HandSHeadRun.topDef K22.R.prog 72).name = ("law" : PySem.Str) := by kernel_rfl
      rw [← e]
      exact hmg0
    have T := K22.txt_of KX G c
    have e := hmg.symm.trans T.g_law
    cases e
    exact ⟨K, K22.fdAt K (He.fAd K ("law", none)), K22.spLaw K, KX, fun s v => L2.FunD.bindsA (ps := ["script"]) T.F_law (fun _ _ _ _ _ _ us hl => match us, hl with | [_], _ => rfl) s [v] rfl, fun H a ns hl _ hS => ⟨a, ns, rfl, hS, hl, fun _ => rfl⟩, fun base _ _ => K22.ok_law T⟩
#print axioms PySem.Challenge.cw_latepresses_k22_whole_meeting_and_lots_holds
