package manifest

import (
	"strconv"
	"strings"

	"bulkhead/api"
)

// inner is what stands ahead of a statement within a partition.
const inner = "  "

// printer writes the lines of a text, of a manifest that is right.
type printer struct {
	text strings.Builder
}

func (p *printer) manifest(m api.Manifest) {
	p.statement("", "module", strconv.Itoa(m.Frame))
	for _, one := range m.Partitions {
		p.partition(one)
	}
	for _, one := range m.Channels {
		p.channel(one, m.Partitions)
	}
}

func (p *printer) partition(one api.Partition) {
	p.line("partition", one.Name, "{")
	p.statement(inner, "period", strconv.Itoa(one.Period))
	p.statement(inner, "duration", strconv.Itoa(one.Duration))
	p.statement(inner, "fault", wordFor(actions(), one.Action))
	for _, region := range one.Regions {
		p.statement(inner, "memory", strconv.Itoa(region.Page), strconv.Itoa(region.Pages), wordFor(rights(), region.Rights))
	}
	p.line("}")
}

func (p *printer) channel(one api.Channel, partitions []api.Partition) {
	p.statement("", "channel", one.Name,
		partitions[one.Source].Name, "->", partitions[one.Target].Name,
		wordFor(channelKinds(), one.Kind), strconv.Itoa(one.Size), strconv.Itoa(one.Depth))
}

func (p *printer) statement(ahead string, tokens ...string) {
	p.line(ahead + strings.Join(tokens, " ") + ";")
}

func (p *printer) line(tokens ...string) {
	p.text.WriteString(strings.Join(tokens, " "))
	p.text.WriteByte('\n')
}
