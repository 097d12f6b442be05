// Package calls holds the calls of all layers against the chapters: it builds as long as each is there, and as it is told.
package calls

import (
	"testing"

	"revenant/alloc"
	"revenant/api"
	"revenant/atlas"
	"revenant/audit"
	"revenant/cell"
	"revenant/chain"
	"revenant/conf"
	"revenant/core"
	"revenant/field"
	"revenant/ghost"
	"revenant/halt"
	"revenant/hist"
	"revenant/ideal"
	"revenant/lin"
	"revenant/link"
	"revenant/mint"
	"revenant/mix"
	"revenant/order"
	"revenant/pace"
	"revenant/place"
	"revenant/play"
	"revenant/queue"
	"revenant/run"
	"revenant/script"
	"revenant/seek"
	"revenant/shade"
	"revenant/skip"
	"revenant/soul"
	"revenant/spec"
	"revenant/table"
	"revenant/tale"
	"revenant/tally"
	"revenant/tower"
	"revenant/twin"
	"revenant/veil"
	"revenant/world"
)

// field: its calls, and the structs without hidden fields.
var (
	_ = struct {
		At    int
		Width int
	}(field.Field{})
	_ func(f field.Field) bool                                = field.Field.Is
	_ func(f field.Field) uint64                              = field.Field.Max
	_ func(f field.Field, w uint64) uint64                    = field.Field.Get
	_ func(f field.Field, w uint64) int64                     = field.Field.Signed
	_ func(f field.Field, w, x uint64) (uint64, bool)         = field.Field.Put
	_ func(list ...field.Field) bool                          = field.Apart
	_ func(list []field.Field, nums ...uint64) (uint64, bool) = field.Pack
	_ func(list []field.Field, w uint64) []uint64             = field.Unpack
	_ func(w uint64, n int) uint64                            = field.Turn
	_ func(w uint64) (int, bool)                              = field.Int
)

// link: its calls, and the structs without hidden fields.
var (
	_ = struct {
		Mark    bool
		Slot    int
		Version int
	}(link.Link{})
	_ func(l link.Link) bool                       = link.Link.Is
	_ func(l link.Link) uint64                     = link.Link.Word
	_ func(w uint64) link.Link                     = link.Of
	_ func(slot, version int) uint64               = link.To
	_ func(w uint64, slot, version int) uint64     = link.Marked
	_ func(w uint64) bool                          = link.IsMarked
	_ func(w uint64) int                           = link.Slot
	_ func(w uint64) int                           = link.Version
	_ func(w uint64, slot int) (uint64, api.Errno) = link.Next
	_ func(a, b uint64) int                        = link.Newer
)

// conf: its calls, and the structs without hidden fields.
var (
	_ func(c api.Config) api.Errno                = conf.Check
	_ func(c api.Config) int                      = conf.Roots
	_ func(c api.Config) int                      = conf.Cells
	_ func(c api.Config, o api.Op) api.Errno      = conf.IsOp
	_ func(c api.Config) int                      = conf.Alone
	_ func(c api.Config, threads int) (int, bool) = conf.Window
)

// cell: its calls, and the structs without hidden fields.
var (
	_ = struct {
		Loads  int
		Stores int
		Swaps  int
		Failed int
		Adds   int
	}(cell.Count{})
	_ func() *cell.Cells                                     = cell.New
	_ func(c *cell.Cells, p api.Place) uint64                = (*cell.Cells).Load
	_ func(c *cell.Cells, p api.Place, w uint64)             = (*cell.Cells).Store
	_ func(c *cell.Cells, p api.Place, old, new uint64) bool = (*cell.Cells).Swap
	_ func(c *cell.Cells, p api.Place, n uint64) uint64      = (*cell.Cells).Add
	_ func(c *cell.Cells, p api.Place) uint64                = (*cell.Cells).Peek
	_ func(c *cell.Cells) cell.Count                         = (*cell.Cells).Count
	_ func(c *cell.Cells) []api.Place                        = (*cell.Cells).Places
	_ func(c *cell.Cells) *cell.Cells                        = (*cell.Cells).Copy
	_ func(a, b *cell.Cells) bool                            = cell.Same
)

// place: its calls, and the structs without hidden fields.
var (
	_ func() api.Place                            = place.Epoch
	_ func() api.Place                            = place.Pool
	_ func() api.Place                            = place.Fresh
	_ func(i int) api.Place                       = place.Root
	_ func(slot, part int) api.Place              = place.Of
	_ func(slot, level int) api.Place             = place.Link
	_ func(c api.Config, p api.Place) bool        = place.Is
	_ func(p api.Place) bool                      = place.IsContent
	_ func(c api.Config) int                      = place.Count
	_ func(c api.Config, p api.Place) (int, bool) = place.Number
	_ func(c api.Config, n int) (api.Place, bool) = place.At
	_ func(p api.Place) string                    = place.Name
)

// soul: its calls, and the structs without hidden fields.
var (
	_ = struct {
		Slot int
		Id   int
	}(soul.Who{})
	_ func() *soul.Souls                   = soul.New
	_ func(s *soul.Souls, slot int) int    = (*soul.Souls).Born
	_ func(s *soul.Souls, slot int) int    = (*soul.Souls).Now
	_ func(s *soul.Souls, w soul.Who) bool = (*soul.Souls).Is
	_ func(s *soul.Souls, id int) int      = (*soul.Souls).SlotOf
	_ func(s *soul.Souls, slot int) []int  = (*soul.Souls).All
	_ func(s *soul.Souls) int              = (*soul.Souls).Count
	_ func(s *soul.Souls) []int            = (*soul.Souls).Slots
)

// world: its calls, and the structs without hidden fields.
var (
	_ = struct {
		Place api.Place
		Id    int
	}(world.At{})
	_ = struct {
		Word  uint64
		Id    int
		Stale bool
	}(world.Val{})
	_ interface {
		Load(a world.At) world.Val
		Store(a world.At, v world.Val)
		Swap(a world.At, old, new world.Val) bool
		Add(a world.At, n uint64) uint64
		Born(slot int) int
		Peek(p api.Place) uint64
		Count() cell.Count
	} = world.World(nil)
	_ func() *world.Plain                                       = world.New
	_ func(w world.World)                                       = world.Start
	_ func(p *world.Plain, a world.At) world.Val                = (*world.Plain).Load
	_ func(p *world.Plain, a world.At, v world.Val)             = (*world.Plain).Store
	_ func(p *world.Plain, a world.At, old, new world.Val) bool = (*world.Plain).Swap
	_ func(p *world.Plain, a world.At, n uint64) uint64         = (*world.Plain).Add
	_ func(p *world.Plain, slot int) int                        = (*world.Plain).Born
	_ func(p *world.Plain, q api.Place) uint64                  = (*world.Plain).Peek
	_ func(p *world.Plain) cell.Count                           = (*world.Plain).Count
	_ func(p *world.Plain) *cell.Cells                          = (*world.Plain).Cells
)

// ghost: its calls, and the structs without hidden fields.
var (
	_ func() *ghost.Ghost                                       = ghost.New
	_ func(g *ghost.Ghost, a world.At) world.Val                = (*ghost.Ghost).Load
	_ func(g *ghost.Ghost, a world.At, v world.Val)             = (*ghost.Ghost).Store
	_ func(g *ghost.Ghost, a world.At, old, new world.Val) bool = (*ghost.Ghost).Swap
	_ func(g *ghost.Ghost, a world.At, n uint64) uint64         = (*ghost.Ghost).Add
	_ func(g *ghost.Ghost, slot int) int                        = (*ghost.Ghost).Born
	_ func(g *ghost.Ghost, p api.Place) uint64                  = (*ghost.Ghost).Peek
	_ func(g *ghost.Ghost) cell.Count                           = (*ghost.Ghost).Count
	_ func(g *ghost.Ghost) *cell.Cells                          = (*ghost.Ghost).Cells
	_ func(g *ghost.Ghost) *soul.Souls                          = (*ghost.Ghost).Souls
	_ func(g *ghost.Ghost) int                                  = (*ghost.Ghost).Stale
	_ func(g *ghost.Ghost) int                                  = (*ghost.Ghost).Faults
)

// ideal: its calls, and the structs without hidden fields.
var (
	_ func() *ideal.Ideal                                       = ideal.New
	_ func(i *ideal.Ideal, a world.At) world.Val                = (*ideal.Ideal).Load
	_ func(i *ideal.Ideal, a world.At, v world.Val)             = (*ideal.Ideal).Store
	_ func(i *ideal.Ideal, a world.At, old, new world.Val) bool = (*ideal.Ideal).Swap
	_ func(i *ideal.Ideal, a world.At, n uint64) uint64         = (*ideal.Ideal).Add
	_ func(i *ideal.Ideal, slot int) int                        = (*ideal.Ideal).Born
	_ func(i *ideal.Ideal, p api.Place) uint64                  = (*ideal.Ideal).Peek
	_ func(i *ideal.Ideal) cell.Count                           = (*ideal.Ideal).Count
	_ func(i *ideal.Ideal, id, part int) uint64                 = (*ideal.Ideal).Content
	_ func(i *ideal.Ideal) *soul.Souls                          = (*ideal.Ideal).Souls
)

// shade: its calls, and the structs without hidden fields.
var (
	_ func(words ...uint64) *shade.Shade                        = shade.New
	_ func(s *shade.Shade, a world.At) world.Val                = (*shade.Shade).Load
	_ func(s *shade.Shade, a world.At, v world.Val)             = (*shade.Shade).Store
	_ func(s *shade.Shade, a world.At, old, new world.Val) bool = (*shade.Shade).Swap
	_ func(s *shade.Shade, a world.At, n uint64) uint64         = (*shade.Shade).Add
	_ func(s *shade.Shade, slot int) int                        = (*shade.Shade).Born
	_ func(s *shade.Shade, p api.Place) uint64                  = (*shade.Shade).Peek
	_ func(s *shade.Shade) cell.Count                           = (*shade.Shade).Count
	_ func(s *shade.Shade) *cell.Cells                          = (*shade.Shade).Cells
	_ func(s *shade.Shade) int                                  = (*shade.Shade).Told
	_ func(s *shade.Shade) int                                  = (*shade.Shade).Faults
)

// queue: its calls, and the structs without hidden fields.
var (
	_ = struct {
		Slot    int
		Retired int
		Id      int
	}(queue.Entry{})
	_ func(list ...queue.Entry) *queue.Queue              = queue.New
	_ func(q *queue.Queue, list ...queue.Entry) api.Errno = (*queue.Queue).Push
	_ func(q *queue.Queue) (queue.Entry, bool)            = (*queue.Queue).Head
	_ func(q *queue.Queue) (queue.Entry, bool)            = (*queue.Queue).Pop
	_ func(q *queue.Queue) int                            = (*queue.Queue).Len
	_ func(q *queue.Queue) []queue.Entry                  = (*queue.Queue).List
	_ func(q *queue.Queue, slot int) int                  = (*queue.Queue).Find
	_ func(q *queue.Queue) int                            = (*queue.Queue).Room
	_ func(a, b *queue.Queue) bool                        = queue.Same
)

// mix: its calls, and the structs without hidden fields.
var (
	_ func(key uint64) uint64                  = mix.Mix
	_ func(w uint64) uint64                    = mix.Unmix
	_ func(odd uint64) uint64                  = mix.Invert
	_ func(c api.Config, key uint64) int       = mix.Bucket
	_ func(c api.Config, keys ...uint64) []int = mix.Spread
)

// core: its calls, and the structs without hidden fields.
var (
	_ func(c api.Config) *core.Core                             = core.New
	_ func(c *core.Core) api.Config                             = (*core.Core).Conf
	_ func(c *core.Core) int                                    = (*core.Core).Epoch
	_ func(c *core.Core, w world.World)                         = (*core.Core).Check
	_ func(c *core.Core, w world.World) bool                    = (*core.Core).Valid
	_ func(c *core.Core, who soul.Who) world.Val                = (*core.Core).To
	_ func(c *core.Core, old world.Val, who soul.Who) world.Val = (*core.Core).Mark
	_ func(c *core.Core, who soul.Who) api.Errno                = (*core.Core).Hold
	_ func(c *core.Core) (soul.Who, bool)                       = (*core.Core).Held
	_ func(c *core.Core) (soul.Who, bool)                       = (*core.Core).Take
	_ func(c *core.Core)                                        = (*core.Core).Drop
	_ func(c *core.Core) *queue.Queue                           = (*core.Core).Queue
	_ func(c *core.Core) int                                    = (*core.Core).Rolls
	_ func(v world.Val) soul.Who                                = core.Lead
)

// alloc: its calls, and the structs without hidden fields.
var (
	_ func(c *core.Core, o api.Op) (*alloc.Alloc, core.State) = alloc.New
	_ func(a *alloc.Alloc, w world.World) core.State          = (*alloc.Alloc).Step
	_ func(c *core.Core, who soul.Who) *alloc.Retire          = alloc.NewRetire
	_ func(r *alloc.Retire, w world.World) core.State         = (*alloc.Retire).Step
	_ func(c *core.Core) *alloc.Give                          = alloc.NewGive
	_ func(g *alloc.Give, w world.World) core.State           = (*alloc.Give).Step
	_ func(g *alloc.Give) int                                 = (*alloc.Give).Given
)

// seek: its calls, and the structs without hidden fields.
var (
	_ func(c *core.Core, at world.At, level int, key uint64, values bool) *seek.Lane = seek.New
	_ func(l *seek.Lane, w world.World) core.State                                   = (*seek.Lane).Step
	_ func(l *seek.Lane) bool                                                        = (*seek.Lane).Found
	_ func(l *seek.Lane) soul.Who                                                    = (*seek.Lane).Who
	_ func(l *seek.Lane) world.At                                                    = (*seek.Lane).At
	_ func(l *seek.Lane) world.Val                                                   = (*seek.Lane).Into
	_ func(l *seek.Lane) world.Val                                                   = (*seek.Lane).Out
	_ func(l *seek.Lane) uint64                                                      = (*seek.Lane).Val
	_ func(c *core.Core, root int, key uint64, values bool) *seek.Search             = seek.NewSearch
	_ func(s *seek.Search, w world.World) core.State                                 = (*seek.Search).Step
	_ func(s *seek.Search) *seek.Lane                                                = (*seek.Search).Lane
)

// chain: its calls, and the structs without hidden fields.
var (
	_ func(c *core.Core, l *seek.Lane) *chain.Link                                      = chain.NewLink
	_ func(l *chain.Link, w world.World) core.State                                     = (*chain.Link).Step
	_ func(c *core.Core, l *seek.Lane, root int, key uint64, to soul.Who) *chain.Unlink = chain.NewUnlink
	_ func(u *chain.Unlink, w world.World) core.State                                   = (*chain.Unlink).Step
	_ func(c *core.Core, o api.Op) *chain.Op                                            = chain.New
	_ func(o *chain.Op, w world.World) core.State                                       = (*chain.Op).Step
	_ func(o *chain.Op) api.Answer                                                      = (*chain.Op).Answer
)

// table: its calls, and the structs without hidden fields.
var (
	_ func(c *core.Core, o api.Op) *table.Op      = table.New
	_ func(o *table.Op, w world.World) core.State = (*table.Op).Step
	_ func(o *table.Op) api.Answer                = (*table.Op).Answer
)

// tower: its calls, and the structs without hidden fields.
var (
	_ func(c *core.Core, key uint64) *tower.Find    = tower.New
	_ func(f *tower.Find, w world.World) core.State = (*tower.Find).Step
	_ func(f *tower.Find) bool                      = (*tower.Find).Found
	_ func(f *tower.Find) soul.Who                  = (*tower.Find).Who
	_ func(f *tower.Find) world.Val                 = (*tower.Find).Out
	_ func(f *tower.Find, level int) world.At       = (*tower.Find).At
	_ func(f *tower.Find, level int) world.Val      = (*tower.Find).Into
	_ func(f *tower.Find, level int) bool           = (*tower.Find).FoundAt
)

// skip: its calls, and the structs without hidden fields.
var (
	_ func(c *core.Core, o api.Op) *skip.Op      = skip.New
	_ func(o *skip.Op, w world.World) core.State = (*skip.Op).Step
	_ func(o *skip.Op) api.Answer                = (*skip.Op).Answer
)

// order: its calls, and the structs without hidden fields.
var (
	_ func(c *core.Core, o api.Op) (*order.Machine, api.Errno) = order.New
	_ func(m *order.Machine, w world.World) core.State         = (*order.Machine).Step
	_ func(m *order.Machine) api.Op                            = (*order.Machine).Op
	_ func(m *order.Machine) (api.Answer, bool)                = (*order.Machine).Answer
	_ func(m *order.Machine) int                               = (*order.Machine).Steps
	_ func(o api.Op) (string, api.Errno)                       = order.Bytes
	_ func(s string) (api.Op, api.Errno)                       = order.Parse
	_ func(a api.Answer) (string, api.Errno)                   = order.AnswerBytes
	_ func(s string) (api.Answer, api.Errno)                   = order.ParseAnswer
)

// spec: its calls, and the structs without hidden fields.
var (
	_ = struct {
		Key uint64
		Val uint64
	}(spec.Pair{})
	_ func(list ...spec.Pair) (spec.State, api.Errno)                  = spec.New
	_ func(s spec.State) int                                           = spec.State.Len
	_ func(s spec.State) []spec.Pair                                   = spec.State.List
	_ func(s spec.State, key uint64) (uint64, bool)                    = spec.State.Get
	_ func(s spec.State, p spec.Pair) (spec.State, api.Errno)          = spec.State.With
	_ func(s spec.State, key uint64) spec.State                        = spec.State.Without
	_ func(s spec.State, o api.Op) (spec.State, api.Answer, api.Errno) = spec.State.Do
	_ func(s spec.State, o api.Op, a api.Answer) (spec.State, bool)    = spec.State.May
)

// script: its calls, and the structs without hidden fields.
var (
	_ = struct {
		Conf  api.Config
		Ops   [][]api.Op
		Picks []int
	}(script.Script{})
	_ = struct {
		Err    api.Errno
		Thread int
		At     int
	}(script.Fault{})
	_ func(s script.Script) script.Fault              = script.Check
	_ func(s script.Script) script.Script             = script.Copy
	_ func(a, b script.Script) bool                   = script.Same
	_ func(s script.Script) int                       = script.Count
	_ func(s script.Script) []int                     = script.Picked
	_ func(s script.Script, thread int) int           = script.Longest
	_ func(s script.Script, thread int) script.Script = script.Without
	_ func(s script.Script, n int) script.Script      = script.Round
)

// run: its calls, and the structs without hidden fields.
var (
	_ = struct {
		Step   int
		Thread int
		Idle   bool
		Op     api.Op
		At     int
		Began  bool
		Over   bool
		Answer api.Answer
	}(run.Event{})
	_ func(w world.World, s script.Script) (*run.Run, script.Fault) = run.New
	_ func(r *run.Run, thread int) (run.Event, api.Errno)           = (*run.Run).Pick
	_ func(r *run.Run) (run.Event, bool)                            = (*run.Run).Step
	_ func(r *run.Run) []run.Event                                  = (*run.Run).All
	_ func(r *run.Run) []run.Event                                  = (*run.Run).Events
	_ func(r *run.Run) int                                          = (*run.Run).Threads
	_ func(r *run.Run, thread int) *core.Core                       = (*run.Run).Core
	_ func(r *run.Run, thread int) *order.Machine                   = (*run.Run).Now
	_ func(r *run.Run) []int                                        = (*run.Run).Pending
	_ func(r *run.Run) world.World                                  = (*run.Run).World
	_ func(r *run.Run) api.Config                                   = (*run.Run).Conf
	_ func(s script.Script) (*run.Run, script.Fault)                = run.Plain
)

// hist: its calls, and the structs without hidden fields.
var (
	_ = struct {
		Thread int
		At     int
		Op     api.Op
		From   int
		To     int
		Answer api.Answer
	}(hist.Call{})
	_ func(list ...run.Event) ([]hist.Call, api.Errno) = hist.Of
	_ func(list ...hist.Call) api.Errno                = hist.Check
	_ func(a, b hist.Call) bool                        = hist.Ahead
	_ func(list ...hist.Call) []hist.Call              = hist.Over
	_ func(list ...hist.Call) []hist.Call              = hist.Open
	_ func(list ...hist.Call) []uint64                 = hist.Keys
	_ func(key uint64, list ...hist.Call) []hist.Call  = hist.ByKey
	_ func(list ...hist.Call) int                      = hist.Overlaps
)

// lin: its calls, and the structs without hidden fields.
var (
	_ func(list ...hist.Call) ([]int, bool, api.Errno)        = lin.Check
	_ func(order []int, list ...hist.Call) bool               = lin.IsOrder
	_ func(order []int, list ...hist.Call) (spec.State, bool) = lin.Behind
	_ func(list ...hist.Call) (bool, api.Errno)               = lin.ByKeys
	_ func(list ...hist.Call) (int, api.Errno)                = lin.First
)

// audit: its calls, and the structs without hidden fields.
var (
	_ func(r *run.Run) (*audit.Audit, api.Errno) = audit.Look
	_ func(a *audit.Audit, slot int) int         = (*audit.Audit).Where
	_ func(a *audit.Audit, where int) int        = (*audit.Audit).Count
	_ func(a *audit.Audit, root int) []int       = (*audit.Audit).Level
	_ func(a *audit.Audit) []spec.Pair           = (*audit.Audit).Pairs
	_ func(a *audit.Audit) int                   = (*audit.Audit).Seen
	_ func(r *run.Run) bool                      = audit.IsTimely
)

// twin: its calls, and the structs without hidden fields.
var (
	_ = struct {
		Step int
		What int
	}(twin.Difference{})
	_ = struct {
		Steps  int
		Idle   int
		Born   int
		Stale  int
		Faults int
		Rolls  int
	}(twin.Report{})
	_ func(s script.Script) (*twin.Twins, script.Fault)                       = twin.New
	_ func(t *twin.Twins, thread int) (run.Event, twin.Difference, api.Errno) = (*twin.Twins).Pick
	_ func(t *twin.Twins) twin.Difference                                     = (*twin.Twins).All
	_ func(t *twin.Twins) twin.Report                                         = (*twin.Twins).Report
	_ func(t *twin.Twins) *run.Run                                            = (*twin.Twins).Real
	_ func(t *twin.Twins) *run.Run                                            = (*twin.Twins).Ideal
	_ func(t *twin.Twins, slot int) int                                       = (*twin.Twins).Who
)

// veil: its calls, and the structs without hidden fields.
var (
	_ = struct {
		Steps  int
		Stale  int
		Faults int
		Told   int
	}(veil.Report{})
	_ = struct {
		Step   int
		Thread int
		Place  api.Place
		Op     api.Op
	}(veil.Sight{})
	_ func(s script.Script, words ...uint64) (veil.Report, bool, script.Fault) = veil.Check
	_ func(s script.Script) ([]veil.Sight, script.Fault)                       = veil.Sights
	_ func(s script.Script, words ...uint64) ([]run.Event, script.Fault)       = veil.Worst
)

// halt: its calls, and the structs without hidden fields.
var (
	_ = struct {
		Retired int
		Back    int
		Given   int
		Left    int
		Most    int
	}(halt.Report{})
	_ func(s script.Script) (halt.Report, script.Fault)             = halt.Measure
	_ func(s script.Script, from int, threads ...int) script.Script = halt.Stop
	_ func(s script.Script) ([]int, script.Fault)                   = halt.Waits
)

// pace: its calls, and the structs without hidden fields.
var (
	_ = struct {
		Picks    int
		Over     int
		Quiet    int
		Steps    int
		Rolls    int
		Failed   int
		Advances int
	}(pace.Report{})
	_ func(s script.Script) (pace.Report, script.Fault) = pace.Measure
	_ func(s script.Script) ([][]int, script.Fault)     = pace.Steps
	_ func(s script.Script) int                         = pace.Bound
	_ func(s script.Script) bool                        = pace.IsSteady
)

// atlas: its calls, and the structs without hidden fields.
var (
	_ = struct {
		Schedules int
		Outcomes  int
		Wrong     int
		Steps     int
		IsCut     bool
	}(atlas.Report{})
	_ func(s script.Script, switches, most int) ([][]int, bool, script.Fault) = atlas.Schedules
	_ func(s script.Script, picks ...int) (string, bool, script.Fault)        = atlas.Play
	_ func(s script.Script, switches, most int) ([]string, script.Fault)      = atlas.Outcomes
	_ func(s script.Script, switches, most int) (atlas.Report, script.Fault)  = atlas.Explore
)

// tale: its calls, and the structs without hidden fields.
var (
	_ func(c api.Config) (string, api.Errno)                       = tale.Conf
	_ func(line string) (api.Config, api.Errno)                    = tale.ReadConf
	_ func(c api.Config, thread int, o api.Op) (string, api.Errno) = tale.Op
	_ func(c api.Config, line string) (int, api.Op, api.Errno)     = tale.ReadOp
	_ func(list ...int) (string, api.Errno)                        = tale.Picks
	_ func(line string) ([]int, api.Errno)                         = tale.ReadPicks
	_ func(s script.Script) (string, api.Errno)                    = tale.Text
	_ func(text string) (script.Script, int, api.Errno)            = tale.Read
	_ func(a api.Answer) string                                    = tale.Tell
)

// play: its calls, and the structs without hidden fields.
var (
	_ func(text string) ([]string, int, api.Errno)   = play.Play
	_ func(s script.Script) ([]string, script.Fault) = play.Lines
	_ func(a, b script.Script) bool                  = play.Same
)

// mint: its calls, and the structs without hidden fields.
var (
	_ func(seed uint64) *mint.Mint                                                               = mint.New
	_ func(m *mint.Mint) uint64                                                                  = (*mint.Mint).Next
	_ func(m *mint.Mint, n int) int                                                              = (*mint.Mint).Below
	_ func(m *mint.Mint, c api.Config, keys int) api.Op                                          = (*mint.Mint).Op
	_ func(m *mint.Mint, threads, n, run int) []int                                              = (*mint.Mint).Picks
	_ func(m *mint.Mint, c api.Config, threads, ops, keys, picks int) (script.Script, api.Errno) = (*mint.Mint).Script
	_ func(state uint64) uint64                                                                  = mint.Back
)

// tally: its calls, and the structs without hidden fields.
var (
	_ = struct {
		Steps  int
		Began  int
		Over   int
		Done   int
		Undone int
		Full   int
		Late   int
	}(tally.Count{})
	_ = struct {
		Idle  int
		Kinds [9]tally.Count
	}(tally.Tally{})
	_ func(list ...run.Event) tally.Tally        = tally.Of
	_ func(list ...tally.Tally) tally.Tally      = tally.Sum
	_ func(a, b tally.Tally) (tally.Tally, bool) = tally.Less
	_ func(t tally.Tally) int                    = tally.Net
	_ func(t tally.Tally) int                    = tally.Steps
	_ func(t tally.Tally) []string               = tally.Lines
)

// Worlds are these.
var (
	_ world.World = (*world.Plain)(nil)
	_ world.World = (*ghost.Ghost)(nil)
	_ world.World = (*ideal.Ideal)(nil)
	_ world.World = (*shade.Shade)(nil)
)

// The numbers that the chapters name.
func TestNumbers(t *testing.T) {
	for _, c := range []struct {
		name      string
		got, want int
	}{
		{"place.Birth", place.Birth, 0},
		{"place.Retire", place.Retire, 1},
		{"place.Chain", place.Chain, 2},
		{"place.Key", place.Key, 3},
		{"place.Val", place.Val, 4},
		{"place.Top", place.Top, 5},
		{"place.State", place.State, 6},
		{"place.Next", place.Next, 7},
		{"core.Busy", int(core.Busy), 0},
		{"core.Done", int(core.Done), 1},
		{"core.Again", int(core.Again), 2},
		{"core.Full", int(core.Full), 3},
		{"core.Late", int(core.Late), 4},
		{"spec.Most", spec.Most, 16},
		{"lin.Most", lin.Most, 64},
		{"audit.Fresh", audit.Fresh, 1},
		{"audit.Pool", audit.Pool, 2},
		{"audit.Own", audit.Own, 3},
		{"audit.Held", audit.Held, 4},
		{"audit.Linked", audit.Linked, 5},
		{"audit.Marked", audit.Marked, 6},
		{"audit.Limbo", audit.Limbo, 7},
		{"twin.Event", twin.Event, 1},
		{"twin.Access", twin.Access, 2},
		{"twin.Shared", twin.Shared, 3},
		{"twin.Content", twin.Content, 4},
		{"atlas.Most", atlas.Most, 12},
	} {
		if c.got != c.want {
			t.Error(c.name, c.got)
		}
	}
}
