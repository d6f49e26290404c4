// Package layers holds the calls of all layers against the chapters: it doesn't
// build if one of them is missing or has another signature.
package layers

import (
	"testing"

	"spigot/api"
	"spigot/book"
	"spigot/cause"
	"spigot/conf"
	"spigot/conn"
	"spigot/core"
	"spigot/count"
	"spigot/daemon"
	"spigot/dir"
	"spigot/epoch"
	"spigot/frame"
	"spigot/gcra"
	"spigot/guard"
	"spigot/hash"
	"spigot/hist"
	"spigot/mach"
	"spigot/meter"
	"spigot/perm"
	"spigot/rate"
	"spigot/real"
	"spigot/shard"
	"spigot/shell"
	"spigot/sim"
	"spigot/tick"
	"spigot/token"
	"spigot/wire"
)

// Layer 1
var (
	_ func(int64) bool                             = tick.Form
	_ func(int64) int64                            = tick.Clamp
	_ func(int64, int64) (int64, api.Errno)        = tick.Add
	_ func(int64, int64) (int64, api.Errno)        = tick.Sub
	_ func(int64, int64) (int64, api.Errno)        = tick.Mul
	_ func(int64, int64) (int64, int64, api.Errno) = tick.Div
	_ func(int64, int64) (int64, api.Errno)        = tick.Ceil
)

// Layer 2
var (
	_ func([]byte) uint64                   = hash.Sum
	_ func(uint64, []byte) uint64           = hash.Update
	_ func(int, []byte) ([]byte, api.Errno) = hash.Ident
	_ func([]byte) (int, []byte, api.Errno) = hash.Parts
	_ func([]byte, int) (int, api.Errno)    = hash.Shard
	_ func([]byte, []byte) int              = hash.Order
)

// Layer 3
var (
	_ func(float64) int                            = real.Kind
	_ func(float64) bool                           = real.Minus
	_ func(float64) (bool, uint64, int, api.Errno) = real.Exact
	_ func(float64, int64, int) (int64, api.Errno) = real.Ticks
	_ func(int64, int64) (float64, api.Errno)      = real.Seconds
	_ func(int64, int64) (float64, api.Errno)      = real.Ratio
	_ func(float64, float64) int                   = real.Order
	_ func(float64, float64) bool                  = real.Same
	_ func(float64, float64) float64               = real.Least
	_ func(float64, float64) float64               = real.Most
)

// Layer 4
var (
	_ func(rate.Rate) (api.Limit, api.Errno)      = rate.Of
	_ func(api.Limit) api.Errno                   = rate.Check
	_ func(api.Limit, int64) (float64, api.Errno) = rate.Real
	_ func(api.Limit) (int64, api.Errno)          = rate.Once
	_ func(api.Limit, int64) (int64, api.Errno)   = rate.Within
)

// Layer 5
var (
	_ func(api.Limit, int64, int64, int64) (gcra.Answer, api.Errno) = gcra.Decide
	_ func(api.Limit, int64, int64) (int64, api.Errno)              = gcra.Left
	_ func(int64, int64) (bool, api.Errno)                          = gcra.Idle
	_ func(api.Limit, int64, []gcra.Ask) ([]gcra.Answer, api.Errno) = gcra.Run
)

// Layer 6
var (
	_ func(int) (perm.Sema, api.Errno)              = perm.New
	_ func(perm.Sema) api.Errno                     = perm.Check
	_ func(perm.Sema, int64) (perm.Sema, api.Errno) = perm.Take
	_ func(perm.Sema, int64) (perm.Sema, api.Errno) = perm.Give
	_ func(perm.Sema, int64) (bool, api.Errno)      = perm.Has
	_ func(perm.Sema) (int, api.Errno)              = perm.Free
)

// Layer 7
var (
	_ func(api.Token) ([]byte, api.Errno) = token.Encode
	_ func([]byte) (api.Token, api.Errno) = token.Decode
	_ func([]byte) string                 = token.Hex
	_ func(string) ([]byte, api.Errno)    = token.Unhex
)

// Layer 8
var (
	_ func() meter.Meter                                      = meter.New
	_ func(meter.Meter, float64) meter.Meter                  = meter.Add
	_ func([]float64) (meter.Meter, api.Errno)                = meter.Of
	_ func(meter.Meter) float64                               = meter.Total
	_ func(meter.Meter, meter.Meter) (meter.Meter, api.Errno) = meter.Merge
	_ func(float64, float64, float64) (float64, api.Errno)    = meter.Smooth
	_ func([]float64, float64) (float64, api.Errno)           = meter.Quantile
)

// Layer 9
var (
	_ func([][]cause.Act) api.Errno                            = cause.Check
	_ func([][]cause.Act) ([]cause.Mark, cause.End, api.Errno) = cause.Run
)

// Layer 10
var (
	_ func([]guard.Hook, int) (*guard.Ring, api.Errno)    = guard.New
	_ func(*guard.Ring) ([]guard.Report, api.Errno)       = (*guard.Ring).Fire
	_ func(*guard.Ring, string) (guard.Report, api.Errno) = (*guard.Ring).One
	_ func(*guard.Ring, string) (int, api.Errno)          = (*guard.Ring).Strikes
	_ func(*guard.Ring, string) api.Errno                 = (*guard.Ring).Again
	_ func(*guard.Ring) []string                          = (*guard.Ring).Live
	_ func([][]cause.Act) ([]cause.Mark, api.Errno)       = guard.Try
)

// Layer 11
var (
	_ func(int) (*mach.Mach, api.Errno)                            = mach.New
	_ func(*mach.Mach, int, int) (uint64, api.Errno)               = (*mach.Mach).Load
	_ func(*mach.Mach, int, int, uint64, uint64) (bool, api.Errno) = (*mach.Mach).Swap
	_ func(*mach.Mach, int) (int64, api.Errno)                     = (*mach.Mach).Clock
	_ func(*mach.Mach, int64) (int64, api.Errno)                   = (*mach.Mach).Tick
	_ func(*mach.Mach, int) (uint64, api.Errno)                    = (*mach.Mach).Word
	_ func(*mach.Mach) int                                         = (*mach.Mach).Count
	_ func(*mach.Mach, int) ([]mach.Access, api.Errno)             = (*mach.Mach).Last
	_ func(int) (*mach.Real, api.Errno)                            = mach.Plain
	_ func(*mach.Real, int, int) (uint64, api.Errno)               = (*mach.Real).Load
	_ func(*mach.Real, int, int, uint64, uint64) (bool, api.Errno) = (*mach.Real).Swap
	_ func(*mach.Real, int) (int64, api.Errno)                     = (*mach.Real).Clock
	_ func(*mach.Real, int64) (int64, api.Errno)                   = (*mach.Real).Tick
)

// Layer 12
var (
	_ func(int64) (*count.Counter, api.Errno)             = count.New
	_ func(*count.Counter, int, byte) api.Errno           = (*count.Counter).Start
	_ func(*count.Counter, int) (count.Result, api.Errno) = (*count.Counter).Step
	_ func(*count.Counter, int) bool                      = (*count.Counter).Pending
	_ func(*count.Counter) int64                          = (*count.Counter).Value
	_ func(*count.Counter) int                            = (*count.Counter).Steps
)

// Layer 13
var (
	_ func(int) (*epoch.Epochs, api.Errno)               = epoch.New
	_ func(*epoch.Epochs, int, byte, int) api.Errno      = (*epoch.Epochs).Start
	_ func(*epoch.Epochs, int) (epoch.Result, api.Errno) = (*epoch.Epochs).Step
	_ func(*epoch.Epochs, int) bool                      = (*epoch.Epochs).Pending
	_ func(*epoch.Epochs, int) bool                      = (*epoch.Epochs).Pinned
	_ func(*epoch.Epochs) int64                          = (*epoch.Epochs).Epoch
	_ func(*epoch.Epochs, int) []int                     = (*epoch.Epochs).Held
)

// Layer 14
var (
	_ func() *shard.Shard                                    = shard.New
	_ func(*shard.Shard, int, byte, []byte, int64) api.Errno = (*shard.Shard).Start
	_ func(*shard.Shard, int) (shard.Result, api.Errno)      = (*shard.Shard).Step
	_ func(*shard.Shard, int) bool                           = (*shard.Shard).Pending
	_ func(*shard.Shard) []shard.Entry                       = (*shard.Shard).Entries
	_ func(*shard.Shard) int64                               = (*shard.Shard).Version
)

// Layer 15
var (
	_ func() *dir.Dir                                    = dir.New
	_ func(*dir.Dir, int, byte, []byte, int64) api.Errno = (*dir.Dir).Start
	_ func(*dir.Dir, int) (dir.Result, api.Errno)        = (*dir.Dir).Step
	_ func(*dir.Dir, int) bool                           = (*dir.Dir).Pending
	_ func(*dir.Dir) []dir.Entry                         = (*dir.Dir).Entries
	_ func(*dir.Dir) (int, bool)                         = (*dir.Dir).Level
	_ func(*dir.Dir) int                                 = (*dir.Dir).Steps
)

// Layer 16
var (
	_ func([]api.Policy) api.Errno                       = book.Policies
	_ func([]api.Policy, api.Call) api.Errno             = book.Check
	_ func([]api.Policy, int) (*book.Book, api.Errno)    = book.New
	_ func(*book.Book, api.Call, int64, int64) api.Reply = (*book.Book).Do
	_ func(*book.Book) []api.Cell                        = (*book.Book).Cells
	_ func(*book.Book) int                               = (*book.Book).Len
)

// Layer 17
var (
	_ func([]api.Policy, int) (*core.Core, api.Errno) = core.New
	_ func(*core.Core, int, api.Call) api.Errno       = (*core.Core).Start
	_ func(*core.Core, int) (core.Result, api.Errno)  = (*core.Core).Step
	_ func(*core.Core, int64) (int64, api.Errno)      = (*core.Core).Tick
	_ func(*core.Core, int) bool                      = (*core.Core).Pending
	_ func(*core.Core) []api.Cell                     = (*core.Core).Cells
	_ func(*core.Core) int64                          = (*core.Core).Count
	_ func(*core.Core) (int, bool)                    = (*core.Core).Level
	_ func(*core.Core) int                            = (*core.Core).Steps
)

// Layer 18
var (
	_ func([]api.Policy, []hist.Done) (bool, api.Errno) = hist.Check
)

// Layer 19
var (
	_ func(sim.Config) (sim.Report, api.Errno) = sim.Run
)

// Layer 20
var (
	_ func([]byte) ([]byte, api.Errno)                  = frame.Encode
	_ func() *frame.Reader                              = frame.New
	_ func(*frame.Reader, []byte) ([][]byte, api.Errno) = (*frame.Reader).Feed
	_ func(*frame.Reader) (int, api.Errno)              = (*frame.Reader).End
	_ func(*frame.Reader) int                           = (*frame.Reader).Waiting
)

// Layer 21
var (
	_ func(api.Call) ([]byte, api.Errno)  = wire.Request
	_ func([]byte) (api.Call, api.Errno)  = wire.ReadRequest
	_ func(api.Reply) ([]byte, api.Errno) = wire.Reply
	_ func([]byte) (api.Reply, api.Errno) = wire.ReadReply
)

// Layer 22
var (
	_ func() *conn.Conn                      = conn.New
	_ func(*conn.Conn, []byte) api.Errno     = (*conn.Conn).Feed
	_ func(*conn.Conn) (api.Call, api.Errno) = (*conn.Conn).Next
	_ func(*conn.Conn, api.Reply) api.Errno  = (*conn.Conn).Reply
	_ func(*conn.Conn) []byte                = (*conn.Conn).Take
	_ func(*conn.Conn) []api.Token           = (*conn.Conn).Hangup
	_ func(*conn.Conn) []api.Token           = (*conn.Conn).Ledger
	_ func(*conn.Conn) int                   = (*conn.Conn).Waiting
	_ func(*conn.Conn) bool                  = (*conn.Conn).Open
)

// Layer 23
var (
	_ func([]api.Policy, int) (*daemon.Daemon, api.Errno) = daemon.New
	_ func(*daemon.Daemon, daemon.Event) api.Errno        = (*daemon.Daemon).Do
	_ func(*daemon.Daemon, int) []byte                    = (*daemon.Daemon).Out
	_ func(*daemon.Daemon, int) int                       = (*daemon.Daemon).State
	_ func(*daemon.Daemon, int) []api.Token               = (*daemon.Daemon).Ledger
	_ func(*daemon.Daemon) []api.Cell                     = (*daemon.Daemon).Cells
	_ func(*daemon.Daemon) int                            = (*daemon.Daemon).Steps
	_ func(*daemon.Daemon) bool                           = (*daemon.Daemon).Quiet
)

// Layer 24
var (
	_ func(string) (float64, api.Errno)           = conf.Float
	_ func(string) ([]conf.Named, int, api.Errno) = conf.Parse
	_ func([]conf.Named) (string, api.Errno)      = conf.Write
	_ func([]conf.Named, string) (int, api.Errno) = conf.Find
	_ func([]conf.Named) []api.Policy             = conf.Table
)

// Layer 25
var (
	_ func(string, string, int) (string, api.Errno)    = shell.Run
	_ func([]conf.Named, string) (api.Call, api.Errno) = shell.Line
)

// Without a test of its own the package would be told as one that has none.
func TestCallsHaveTheirSignatures(t *testing.T) {}
