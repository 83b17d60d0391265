package show

import (
	"strconv"
	"strings"

	"tumbrel/api"
	"tumbrel/chart"
	"tumbrel/expr"
	"tumbrel/guard"
)

// writer writes the text of a chart that is formed.
type writer struct {
	text strings.Builder
}

// put writes s, unless there is too much text already: a chart may be far larger than its text may be.
func (w *writer) put(s string) {
	if w.text.Len() <= api.MaxSource {
		w.text.WriteString(s)
	}
}

// begin begins a line that lies in that many things.
func (w *writer) begin(deep int) {
	w.put(strings.Repeat("\t", deep))
}

// line writes a line that lies in that many things.
func (w *writer) line(deep int, s string) {
	w.begin(deep)
	w.put(s)
	w.put("\n")
}

// chart writes a chart's lines.
func (w *writer) chart(c chart.Chart) {
	w.line(0, "chart "+c.Name+" "+strconv.Itoa(c.Version)+" {")
	for _, v := range c.Vars {
		w.line(1, "var "+v.Name+" = "+strconv.FormatInt(v.N, 10))
	}
	w.states(1, c.States)
	w.line(0, "}")
}

// states writes the lines of states that lie in that many things.
func (w *writer) states(deep int, list []chart.State) {
	for _, s := range list {
		w.line(deep, "state "+s.Name+" {")
		w.kind(deep+1, s)
		for _, o := range s.Ons {
			w.on(deep+1, o)
		}
		w.states(deep+1, s.Inner)
		w.line(deep, "}")
	}
}

// kind writes the line that tells of which kind a state is, if it is of one.
func (w *writer) kind(deep int, s chart.State) {
	switch {
	case s.All:
		w.line(deep, "all")
	case s.End:
		w.line(deep, "end")
	case s.Do != "":
		w.line(deep, "do "+s.Do+" undo "+s.Undo+" at "+strconv.Itoa(s.Where)+" retries "+strconv.Itoa(s.Retries))
	}
}

// on writes an on's line.
func (w *writer) on(deep int, o chart.On) {
	w.begin(deep)
	w.put("on " + o.Event)
	if o.Guard != nil {
		w.put(" if " + textOf(o.Guard))
	}
	w.put(" go " + o.Target)
	for _, s := range o.Sets {
		w.put(" set " + s.Name + " = " + textOf(s.To))
	}
	w.put("\n")
}

// textOf is the text of an expression that has one: Formed has asked that already.
func textOf(e expr.Expr) string {
	text, _ := guard.Print(e)
	return text
}
